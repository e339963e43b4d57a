package tests

import (
	"math"
	"testing"

	"loop.example/wholethreads/impl"
)

// sameSpread reports whether two states have the same lists and the same buffers.
func sameSpread(a impl.Spread, b impl.Spread) bool {
	return sameState(a.State, b.State) && sameOrderLists(a.Bufs, b.Bufs)
}

// isNoSpread reports whether a state has nothing.
func isNoSpread(s impl.Spread) bool { return sameSpread(s, impl.Spread{}) }

// spreadWith returns a state with buffers.
func spreadWith(s impl.State, bufs [][]int) impl.Spread { return impl.Spread{State: s, Bufs: bufs} }

// oneBuf returns so many buffers, all empty but one.
func oneBuf(count int, which int, values ...int) [][]int {
	bufs := emptyBufs(count)
	bufs[which] = values
	return bufs
}

// byPlace returns the buffers for each place of threads that have places and values by turns.
func byPlace(lists ...[]int) [][]int {
	bufs := emptyBufs(3 * len(lists))
	for thread, list := range lists {
		for at := 1; at < len(list); at += 2 {
			buffer := 3*thread + list[at-1]
			bufs[buffer] = append(bufs[buffer], list[at])
		}
	}
	return bufs
}

// copiedSpread returns a state that shares no memory with another one, and has the same.
func copiedSpread(s impl.Spread) impl.Spread {
	same := copiedBuffered(impl.Buffered{State: s.State, Bufs: s.Bufs})
	return spreadWith(same.State, same.Bufs)
}

func TestSpreadBegin(t *testing.T) {
	for _, p := range append(threadedPrograms(), allPrograms()...) {
		begin, _ := impl.Begin(p)
		s, ok := impl.SpreadBegin(p)
		if !ok || !sameSpread(s, spreadWith(begin, emptyBufs(3*len(p.Threads)))) || !impl.SpreadOk(p, s) {
			t.Errorf("SpreadBegin(%v) = %v, %v", p, s, ok)
		}
	}
}

// fullValues returns so many values.
func fullValues(count int) []int {
	list := []int{}
	for i := range count {
		list = append(list, (i+1)%4)
	}
	return list
}

func TestSpreadOkOfHowManyBuffers(t *testing.T) {
	for _, p := range threadedPrograms() {
		begin, _ := impl.Begin(p)
		for count := range 13 {
			for values := range 7 {
				bufs := emptyBufs(count)
				if count > 0 {
					bufs[count-1] = fullValues(values)
				}
				if impl.SpreadOk(p, spreadWith(begin, bufs)) != (count == 3*len(p.Threads)) {
					t.Errorf("%d threads, %d buffers: SpreadOk = %v", len(p.Threads), count, count != 3*len(p.Threads))
				}
			}
		}
		if impl.SpreadOk(p, spreadWith(begin, nil)) || !impl.SpreadOk(p, spreadWith(begin, make([][]int, 3*len(p.Threads)))) {
			t.Errorf("%d threads: SpreadOk tells nil from empty", len(p.Threads))
		}
	}
}

func TestSpreadOkOfHowManyValues(t *testing.T) {
	for _, p := range threadedPrograms() {
		begin, _ := impl.Begin(p)
		count := 3 * len(p.Threads)
		for buffer := range count {
			for length := range 40 {
				s := spreadWith(begin, oneBuf(count, buffer, fullValues(length)...))
				want := length <= 6
				if impl.SpreadOk(p, s) != want || impl.SpreadCan(p, s, len(p.Threads)+buffer) != (want && length > 0) {
					t.Errorf("%d values in the buffer %d: SpreadOk = %v, SpreadCan = %v", length, buffer, impl.SpreadOk(p, s), impl.SpreadCan(p, s, len(p.Threads)+buffer))
				}
			}
		}
	}
}

func TestSpreadOkAtEachValue(t *testing.T) {
	may := span{0, 3}
	for _, p := range threadedPrograms() {
		begin, _ := impl.Begin(p)
		count := 3 * len(p.Threads)
		for buffer := range count {
			for at := range 6 {
				for _, n := range []int{math.MinInt, -64, -2, -1, 0, 1, 2, 3, 4, 5, 8, 16, 64, math.MaxInt} {
					bufs := oneBuf(count, buffer, fullValues(6)...)
					bufs[buffer][at] = n
					if impl.SpreadOk(p, spreadWith(begin, bufs)) != may.has(n) {
						t.Errorf("SpreadOk with %d in the buffer %d of %d at %d = %v", n, buffer, count, at, !may.has(n))
					}
				}
			}
		}
	}
}

func TestSpreadOkOfWhatNoStepsComeTo(t *testing.T) {
	p := programOf(fences(1), nil)
	full := fullValues(6)
	for _, s := range []impl.State{
		{At: []int{0, 0}, Regs: []int{3, 3, 3, 3, 3, 3}, Mem: []int{3, 3, 3}, Owner: []int{1, 1}, Chan: []int{3, 3}},
		{At: []int{1, 0}, Regs: []int{0, 1, 2, 3, 0, 1}, Mem: []int{2, 3, 0}, Owner: []int{0, 1}, Chan: []int{0, -1}},
	} {
		for _, bufs := range [][][]int{emptyBufs(6), oneBuf(6, 2, 3), oneBuf(6, 3, 0, 0), {full, full, full, full, full, full}} {
			if !impl.SpreadOk(p, spreadWith(s, bufs)) {
				t.Errorf("SpreadOk(%v, %v) = false", s, bufs)
			}
		}
	}
}

// brokenPlaceBufs returns what are no buffers for each place of a program.
func brokenPlaceBufs(p impl.Program) [][][]int {
	threads := len(p.Threads)
	count := 3 * threads
	list := [][][]int{nil, emptyBufs(threads), emptyBufs(2 * threads), emptyBufs(count - 1), emptyBufs(count + 1), emptyBufs(count + 3), emptyBufs(count + 64)}
	for buffer := range count {
		for _, values := range [][]int{fullValues(7), fullValues(12), fullValues(64), {4}, {-1}, {0, 4}, {-1, 0}, {0, 1, 2, 3, 0, 4}, {0, math.MaxInt}, {math.MinInt}} {
			list = append(list, oneBuf(count, buffer, values...))
		}
	}
	return list
}

// checkNoSpread fails the test if there is an answer about what is no state of a program on the machine with a buffer for each place.
func checkNoSpread(t *testing.T, p impl.Program, s impl.Spread) {
	t.Helper()
	if impl.SpreadOk(p, s) {
		t.Errorf("SpreadOk(%v, %v) = true", p, s)
	}
	for step := -1; step <= 13; step++ {
		next, ok := impl.SpreadDo(p, s, step)
		if impl.SpreadCan(p, s, step) || ok || !isNoSpread(next) {
			t.Errorf("SpreadDo(%v, %v, %d) = %v, %v", p, s, step, next, ok)
		}
		for place := -1; place <= 3; place++ {
			if read := impl.SpreadReads(p, s, step, place); read != -1 {
				t.Errorf("SpreadReads(%v, %v, %d, %d) = %d", p, s, step, place, read)
			}
		}
	}
}

func TestSpreadStatesThatAreNone(t *testing.T) {
	programs := append(threadedPrograms(), passedOn(), handOver(), manyReads())
	for _, p := range programs {
		begin, _ := impl.Begin(p)
		count := 3 * len(p.Threads)
		for _, s := range brokenStates(p) {
			checkNoSpread(t, p, spreadWith(s, emptyBufs(count)))
			checkNoSpread(t, p, spreadWith(s, oneBuf(count, count-1, 1, 2)))
		}
		for _, bufs := range brokenPlaceBufs(p) {
			checkNoSpread(t, p, spreadWith(begin, bufs))
		}
		checkNoSpread(t, p, impl.Spread{})
		for _, q := range programs {
			if s, _ := impl.SpreadBegin(q); len(q.Threads) != len(p.Threads) {
				checkNoSpread(t, p, s)
			}
		}
	}
}

func TestSpreadOfWhatIsNoProgram(t *testing.T) {
	for _, p := range storedNoPrograms() {
		if s, ok := impl.SpreadBegin(p); ok || !isNoSpread(s) {
			t.Errorf("SpreadBegin(%v) = %v, %v", p, s, ok)
		}
		count := 3 * len(p.Threads)
		checkNoSpread(t, p, impl.Spread{})
		checkNoSpread(t, p, spreadWith(beginAnyway(p), emptyBufs(count)))
		if count > 0 {
			checkNoSpread(t, p, spreadWith(beginAnyway(p), oneBuf(count, 0, 1)))
		}
		for _, steps := range [][]int{nil, {}, {0}, {1}, {-1}, {0, 1}} {
			if s, ok := impl.SpreadPlay(p, steps); ok || !isNoSpread(s) {
				t.Errorf("SpreadPlay(%v, %v) = %v, %v", p, steps, s, ok)
			}
		}
		if list := impl.SpreadOutcomes(p); len(list) != 0 {
			t.Errorf("SpreadOutcomes(%v) = %v", p, list)
		}
	}
}

func TestSpreadReadsExamples(t *testing.T) {
	full := fullValues(6)
	// The places have 3, 2 and 1.
	cases := []struct {
		name string
		bufs [][]int
		want [2][3]int
	}{
		{"empty buffers", emptyBufs(6), [2][3]int{{3, 2, 1}, {3, 2, 1}}},
		{"a value for each place", [][]int{{0}, {3}, {2}, {}, {}, {}}, [2][3]int{{0, 3, 2}, {3, 2, 1}}},
		{"a value for the first place", oneBuf(6, 0, 1), [2][3]int{{1, 2, 1}, {3, 2, 1}}},
		{"a nought for the second place", oneBuf(6, 1, 0), [2][3]int{{3, 0, 1}, {3, 2, 1}}},
		{"a value for the last place", oneBuf(6, 2, 3), [2][3]int{{3, 2, 3}, {3, 2, 1}}},
		{"what the place has", oneBuf(6, 1, 2), [2][3]int{{3, 2, 1}, {3, 2, 1}}},
		{"a value of the other thread alone", oneBuf(6, 4, 0), [2][3]int{{3, 2, 1}, {3, 0, 1}}},
		{"several of the other thread alone", oneBuf(6, 5, 1, 2, 3), [2][3]int{{3, 2, 1}, {3, 2, 3}}},
		{"values of both threads for one place", [][]int{{}, {0}, {}, {}, {3}, {}}, [2][3]int{{3, 0, 1}, {3, 3, 1}}},
		{"values of both threads for two places", [][]int{{}, {0}, {}, {}, {}, {3}}, [2][3]int{{3, 0, 1}, {3, 2, 3}}},
		{"two values for one place", oneBuf(6, 1, 0, 3), [2][3]int{{3, 3, 1}, {3, 2, 1}}},
		{"two values for one place, the newest one nought", oneBuf(6, 4, 3, 0), [2][3]int{{3, 2, 1}, {3, 0, 1}}},
		{"two values twice", oneBuf(6, 0, 2, 1, 2, 1), [2][3]int{{1, 2, 1}, {3, 2, 1}}},
		{"several for each of two places", [][]int{{1, 2}, {}, {3, 0, 2}, {}, {}, {}}, [2][3]int{{2, 2, 2}, {3, 2, 1}}},
		{"six values for one place", oneBuf(6, 0, 0, 1, 2, 0, 3, 1), [2][3]int{{1, 2, 1}, {3, 2, 1}}},
		{"full buffers", [][]int{full, {0, 0, 0, 0, 0, 3}, {3, 3, 3, 3, 3, 0}, {1, 1, 1, 1, 1, 1}, full, {2, 2, 2, 2, 2, 0}}, [2][3]int{{2, 3, 0}, {1, 2, 0}}},
	}
	for _, c := range cases {
		// What a thread reads does not hang on what it does next, nor on whether it is done.
		for _, p := range []impl.Program{programOf(nil, nil), storesAndLoads(), programOf(threadOf(strong(loadOf(0))), fences(1))} {
			for thread, places := range c.want {
				for place, want := range places {
					if read := impl.SpreadReads(p, spreadWith(filled(), c.bufs), thread, place); read != want {
						t.Errorf("%s: what the thread %d reads at %d = %d, want %d", c.name, thread, place, read, want)
					}
				}
			}
		}
	}
}

func TestSpreadReadsOfWhatIsNotThere(t *testing.T) {
	for _, p := range threadedPrograms() {
		begin, _ := impl.Begin(p)
		s := spreadWith(begin, oneBuf(3*len(p.Threads), 0, fullValues(6)...))
		for _, thread := range noThreads(len(p.Threads)) {
			for place := range 3 {
				if read := impl.SpreadReads(p, s, thread, place); read != -1 {
					t.Errorf("of %d threads, %d reads %d", len(p.Threads), thread, read)
				}
			}
		}
		for _, place := range noThreads(3) {
			for thread := range p.Threads {
				if read := impl.SpreadReads(p, s, thread, place); read != -1 {
					t.Errorf("at the place %d, a thread reads %d", place, read)
				}
			}
		}
	}
}

func TestSpreadDoOfEachKind(t *testing.T) {
	for _, c := range bufCases() {
		p := programOf(append(threadOf(c.s), fences(2)...), fences(1))
		full := spreadWith(filled(), byPlace([]int{0, 2, 1, 1}, []int{2, 0}))
		empty := spreadWith(filled(), byPlace(nil, []int{2, 0}))
		s := full
		if c.waits {
			s = empty
		}
		want := spreadWith(changed(changed(filled(), c.want), []change{{ofAt, 0, 1}}), byPlace(c.buf, []int{2, 0}))
		if next, ok := impl.SpreadDo(p, s, 0); !ok || !sameSpread(next, want) {
			t.Errorf("%s: SpreadDo = %v, %v, want %v", c.name, next, ok, want)
		}
		if next, ok := impl.SpreadDo(p, full, 0); ok == c.waits || isNoSpread(next) != c.waits {
			t.Errorf("%s: SpreadDo with buffers that are not empty = %v, %v", c.name, next, ok)
		}
		// With empty buffers all but the store that is put behind is done as without them.
		if c.s.Kind == impl.StStore && !c.s.Strong {
			continue
		}
		done, _ := impl.Do(p, filled(), 0)
		if next, ok := impl.SpreadDo(p, spreadWith(filled(), emptyBufs(6)), 0); !ok || !sameSpread(next, spreadWith(done, emptyBufs(6))) {
			t.Errorf("%s: SpreadDo with empty buffers = %v, %v, want %v", c.name, next, ok, done)
		}
	}
}

func TestSpreadCanWithOneBufferThatIsNotEmpty(t *testing.T) {
	for _, c := range bufCases() {
		p := programOf(append(threadOf(c.s), fences(2)...), fences(1))
		for buffer := range 6 {
			for _, values := range [][]int{{0}, {3}, {1, 2}, fullValues(6)} {
				// What another thread has in its buffers is not waited for.
				want := !c.waits || buffer >= 3
				s := spreadWith(filled(), oneBuf(6, buffer, values...))
				next, ok := impl.SpreadDo(p, s, 0)
				if ok != want || impl.SpreadCan(p, s, 0) != want || isNoSpread(next) == want {
					t.Errorf("%s, with %v in the buffer %d: SpreadDo = %v, %v", c.name, values, buffer, next, ok)
				}
				full := spreadWith(filled(), [][]int{values, values, values, {}, {}, {}})
				if impl.SpreadCan(p, full, 0) == c.waits {
					t.Errorf("%s, with %v in all buffers: SpreadCan = %v", c.name, values, !c.waits)
				}
			}
		}
		if !impl.SpreadCan(p, spreadWith(filled(), emptyBufs(6)), 0) {
			t.Errorf("%s, with empty buffers: SpreadCan = false", c.name)
		}
	}
}

func TestSpreadLoadsOfWhatIsInBuffers(t *testing.T) {
	bufs := [][]int{{1, 0}, {}, {2}, {}, {3}, {0, 3, 1}}
	for place, wants := range [][2]int{{0, 3}, {2, 3}, {2, 1}} {
		for thread, want := range wants {
			for r := range 3 {
				p := programOf(threadOf(loadInto(r, place)), threadOf(loadInto(r, place)))
				next, ok := impl.SpreadDo(p, spreadWith(filled(), bufs), thread)
				left := spreadWith(changed(filled(), []change{{ofAt, thread, 1}, {ofRegs, 3*thread + r, want}}), bufs)
				if !ok || !sameSpread(next, left) {
					t.Errorf("the thread %d loads from %d: SpreadDo = %v, %v, want %v", thread, place, next, ok, left)
				}
			}
		}
	}
}

func TestSpreadStoresAtSeveralPlaces(t *testing.T) {
	bufs := [][]int{{1}, {}, {2, 3}, {}, {0}, {}}
	for place := range 3 {
		for thread := range 2 {
			for value := range 4 {
				p := programOf(threadOf(storeTo(place, value)), threadOf(storeTo(place, value)))
				want := copiedSpread(spreadWith(changed(filled(), []change{{ofAt, thread, 1}}), bufs))
				want.Bufs[3*thread+place] = longer(want.Bufs[3*thread+place], value)
				if next, ok := impl.SpreadDo(p, spreadWith(filled(), bufs), thread); !ok || !sameSpread(next, want) {
					t.Errorf("the thread %d stores %d at %d: SpreadDo = %v, %v, want %v", thread, value, place, next, ok, want)
				}
			}
		}
	}
}

func TestSpreadWaiting(t *testing.T) {
	for _, c := range waitCases() {
		p := programOf(threadOf(c.s), threadOf(c.s))
		s := changed(filled(), c.changes)
		if impl.SpreadCan(p, spreadWith(s, emptyBufs(6)), 0) != c.want {
			t.Errorf("%s: SpreadCan with empty buffers = %v", c.name, !c.want)
		}
		for buffer := range 6 {
			want := c.want && buffer >= 3
			if impl.SpreadCan(p, spreadWith(s, oneBuf(6, buffer, 2)), 0) != want {
				t.Errorf("%s: SpreadCan with a value in the buffer %d = %v", c.name, buffer, !want)
			}
		}
	}
}

func TestTakingValues(t *testing.T) {
	p := programOf(fences(1), nil, storeAt(0))
	begin, _ := impl.Begin(p)
	bufs := [][]int{{2}, {0, 2}, {1, 3, 0}, {0}, {1, 1}, {2, 2, 0}, fullValues(6), {0, 3, 0, 3, 0, 3}, {3, 0}}
	// The buffers of threads that are done, or have no statements, are taken from as well.
	for _, at := range [][]change{nil, {{ofAt, 0, 1}}, {{ofAt, 0, 1}, {ofAt, 2, 1}}} {
		for _, mem := range [][]change{nil, {{ofMem, 0, 3}, {ofMem, 1, 3}, {ofMem, 2, 3}}} {
			s := changed(changed(begin, at), mem)
			for buffer, values := range bufs {
				want := copiedSpread(spreadWith(changed(s, []change{{ofMem, buffer % 3, values[0]}}), bufs))
				want.Bufs[buffer] = values[1:]
				if next, ok := impl.SpreadDo(p, spreadWith(s, bufs), 3+buffer); !ok || !sameSpread(next, want) || !impl.SpreadCan(p, spreadWith(s, bufs), 3+buffer) {
					t.Errorf("the oldest value of the buffer %d: SpreadDo = %v, %v, want %v", buffer, next, ok, want)
				}
				without := append([][]int{}, bufs...)
				without[buffer] = nil
				if next, ok := impl.SpreadDo(p, spreadWith(s, without), 3+buffer); ok || !isNoSpread(next) || impl.SpreadCan(p, spreadWith(s, without), 3+buffer) {
					t.Errorf("the oldest value of the buffer %d, which is empty: SpreadDo = %v, %v", buffer, next, ok)
				}
			}
		}
	}
}

func TestSpreadStepsThatThereAreNot(t *testing.T) {
	for _, p := range append(threadedPrograms(), passedOn(), programOf(storeAt(0)), programOf(storeAt(0), storeAt(1), storeAt(2))) {
		begin, _ := impl.Begin(p)
		for _, values := range [][]int{nil, {0}, fullValues(6)} {
			bufs := [][]int{}
			for range 3 * len(p.Threads) {
				bufs = append(bufs, values)
			}
			for _, step := range noThreads(4 * len(p.Threads)) {
				next, ok := impl.SpreadDo(p, spreadWith(begin, bufs), step)
				if ok || !isNoSpread(next) || impl.SpreadCan(p, spreadWith(begin, bufs), step) {
					t.Errorf("of %d threads: SpreadDo of the step %d = %v, %v", len(p.Threads), step, next, ok)
				}
				if s, ok := impl.SpreadPlay(p, []int{step}); ok || !isNoSpread(s) {
					t.Errorf("of %d threads: SpreadPlay of the step %d = %v, %v", len(p.Threads), step, s, ok)
				}
			}
			// All steps there are of a buffer can be done just if it is not empty.
			for buffer := range bufs {
				if impl.SpreadCan(p, spreadWith(begin, bufs), len(p.Threads)+buffer) != (len(values) > 0) {
					t.Errorf("of %d threads: SpreadCan of the buffer %d with %v = %v", len(p.Threads), buffer, values, len(values) == 0)
				}
			}
		}
	}
}

func TestSpreadAtTheEndOfAThread(t *testing.T) {
	stores := threadOf(storeTo(0, 1), storeTo(1, 2), storeTo(2, 3), storeTo(0, 2), storeTo(1, 1), storeTo(2, 1))
	p := programOf(stores, threadOf(loadInto(0, 0), loadInto(1, 1), loadInto(2, 2)))
	begin, _ := impl.Begin(p)
	cases := []struct {
		takes []int
		mems  [][]int
	}{
		{[]int{2, 3, 4, 2, 3, 4}, [][]int{{1, 0, 0}, {1, 2, 0}, {1, 2, 3}, {2, 2, 3}, {2, 1, 3}, {2, 1, 1}}},
		{[]int{4, 4, 3, 3, 2, 2}, [][]int{{0, 0, 3}, {0, 0, 1}, {0, 2, 1}, {0, 1, 1}, {1, 1, 1}, {2, 1, 1}}},
		{[]int{3, 2, 2, 4, 3, 4}, [][]int{{0, 2, 0}, {1, 2, 0}, {2, 2, 0}, {2, 2, 3}, {2, 1, 3}, {2, 1, 1}}},
	}
	for _, c := range cases {
		s, ok := impl.SpreadPlay(p, []int{0, 0, 0, 0, 0, 0})
		want := spreadWith(changed(begin, []change{{ofAt, 0, 6}}), [][]int{{1, 2}, {2, 1}, {3, 1}, {}, {}, {}})
		if !ok || !sameSpread(s, want) || !impl.SpreadOk(p, s) || impl.SpreadCan(p, s, 0) || !impl.SpreadCan(p, s, 1) {
			t.Fatalf("SpreadPlay = %v, %v, want %v", s, ok, want)
		}
		for i, take := range c.takes {
			s, ok = impl.SpreadDo(p, s, take)
			if !ok || !sameNumbers(s.State.Mem, c.mems[i]) {
				t.Errorf("behind the steps %v: SpreadDo = %v, %v, want %v", c.takes[:i+1], s, ok, c.mems[i])
			}
		}
		for step := -1; step <= 8; step++ {
			if impl.SpreadCan(p, s, step) != (step == 1) {
				t.Errorf("SpreadCan of %d behind all stores = %v", step, step != 1)
			}
		}
	}
}

// No steps come to a store behind MaxStmts others at its place, but a state may tell of one; it is done with any buffers, as all such are.
func TestAStoreBehindAFullPlaceBuffer(t *testing.T) {
	p := programOf(threadOf(storeTo(2, 3), loadInto(0, 2)), nil)
	begin, _ := impl.Begin(p)
	bufs := [][]int{}
	for range 6 {
		bufs = append(bufs, fullValues(6))
	}
	full := spreadWith(begin, bufs)
	want := copiedSpread(spreadWith(changed(begin, []change{{ofAt, 0, 1}}), bufs))
	want.Bufs[2] = append(fullValues(6), 3)
	next, ok := impl.SpreadDo(p, full, 0)
	if !ok || !impl.SpreadCan(p, full, 0) || !sameSpread(next, want) {
		t.Errorf("SpreadDo = %v, %v, want %v", next, ok, want)
	}
	checkNoSpread(t, p, next)
}

func TestSpreadSkip(t *testing.T) {
	for length := 1; length <= 4; length++ {
		for at := range length {
			for count := 1; count <= 6; count++ {
				for has := range 4 {
					stmts := fences(length)
					stmts[at] = skipOver(1, count)
					p := programOf(nil, stmts)
					s := beginWith(p, change{ofAt, 1, at}, change{ofRegs, 4, has})
					to := at + 1
					if has == 0 {
						to = min(at+1+count, length)
					}
					for buffer := range 6 {
						bufs := oneBuf(6, buffer, fullValues(count)...)
						next, ok := impl.SpreadDo(p, spreadWith(s, bufs), 1)
						if want := spreadWith(changed(s, []change{{ofAt, 1, to}}), bufs); !ok || !sameSpread(next, want) {
							t.Errorf("a skip over %d of %d at %d: SpreadDo = %v, %v, want %v", count, length, at, next, ok, want)
						}
					}
				}
			}
		}
	}
}

// checkSpreadSteps fails the test if what can be done in a state, what that comes to, or what threads read in it, is not what is plainly told. It returns how many steps can be done.
func checkSpreadSteps(t *testing.T, p impl.Program, b plainSpread) int {
	t.Helper()
	s := spreadOf(b, len(p.Threads))
	can := 0
	for step := -1; step <= 4*len(p.Threads); step++ {
		want, ok := plainSpreadStep(p, b, step)
		next, did := impl.SpreadDo(p, s, step)
		if did != ok || impl.SpreadCan(p, s, step) != ok {
			t.Fatalf("SpreadDo(%v, %v, %d) = %v, %v", p, s, step, next, did)
		}
		if ok && !sameSpread(next, spreadOf(want, len(p.Threads))) || !ok && !isNoSpread(next) {
			t.Fatalf("SpreadDo(%v, %v, %d) = %v, %v, want %v", p, s, step, next, did, want)
		}
		if ok {
			can++
		}
	}
	for thread := range p.Threads {
		for place := range 3 {
			if read := impl.SpreadReads(p, s, thread, place); read != plainSpreadReads(b, thread, place) {
				t.Fatalf("SpreadReads(%v, %v, %d, %d) = %d", p, s, thread, place, read)
			}
		}
	}
	return can
}

// someSpreads returns buffers of one thread: none, one that is not empty, two and three.
func someSpreads() [][][]int {
	return [][][]int{
		{{}, {}, {}}, {{1}, {}, {}}, {{}, {0}, {}}, {{}, {}, {3, 2}}, {{2}, {1}, {}}, {{0, 1}, {}, {2, 3, 0}}, {{3}, {2, 1}, {0}}, {fullValues(6), {0, 3, 2, 1, 0, 3}, fullValues(5)},
	}
}

func TestSpreadStepsOfEachStatement(t *testing.T) {
	states := statesOfThree()
	none, some := emptyBufs(3), someSpreads()
	for _, st := range goodStmts() {
		first, last := programOf(threadOf(st, fences(1)[0]), nil, fences(1)), programOf(fences(2), nil, threadOf(st))
		for i, s := range states {
			for k, own := range some {
				other := some[(i+k)%len(some)]
				checkSpreadSteps(t, first, plainSpreadOf(spreadWith(s, append(append(append([][]int{}, own...), other...), none...))))
				checkSpreadSteps(t, last, plainSpreadOf(spreadWith(s, append(append(append([][]int{}, other...), none...), own...))))
			}
		}
	}
}

func TestSpreadPlayExamples(t *testing.T) {
	p := passedOn()
	cases := []struct {
		name  string
		p     impl.Program
		steps []int
		want  []change
		bufs  [][]int
		ok    bool
	}{
		{"no steps", p, nil, nil, emptyBufs(6), true},
		{"no steps of one thread", programOf(nil), []int{}, nil, emptyBufs(3), true},
		{"a store", p, []int{0}, []change{{ofAt, 0, 1}}, [][]int{{1}, {}, {}, {}, {}, {}}, true},
		{"a store that is taken", p, []int{0, 2}, []change{{ofAt, 0, 1}, {ofMem, 0, 1}}, emptyBufs(6), true},
		{"two stores", p, []int{0, 0}, []change{{ofAt, 0, 2}}, [][]int{{1}, {1}, {}, {}, {}, {}}, true},
		{"two stores, the second one taken", p, []int{0, 0, 3}, []change{{ofAt, 0, 2}, {ofMem, 1, 1}}, [][]int{{1}, {}, {}, {}, {}, {}}, true},
		{"two stores, taken the other way round", p, []int{0, 0, 3, 2}, []change{{ofAt, 0, 2}, {ofMem, 0, 1}, {ofMem, 1, 1}}, emptyBufs(6), true},
		{"loads between them", p, []int{0, 0, 3, 1, 1, 2}, []change{{ofAt, 0, 2}, {ofAt, 1, 2}, {ofRegs, 3, 1}, {ofMem, 0, 1}, {ofMem, 1, 1}}, emptyBufs(6), true},
		{"a store of the last thread", programOf(nil, nil, storeAt(2)), []int{2}, []change{{ofAt, 2, 1}}, oneBuf(9, 8, 1), true},
		{"a store of the last thread that is taken", programOf(nil, nil, storeAt(2)), []int{2, 11}, []change{{ofAt, 2, 1}, {ofMem, 2, 1}}, emptyBufs(9), true},
		{"a load of what is in the own buffer", programOf(threadOf(storeTo(0, 1), storeTo(0, 3), storeTo(1, 2), loadInto(2, 0))), []int{0, 0, 0, 0}, []change{{ofAt, 0, 4}, {ofRegs, 2, 3}}, [][]int{{1, 3}, {2}, {}}, true},
		{"a load of it behind the older store", programOf(threadOf(storeTo(0, 1), storeTo(0, 3), loadInto(2, 0))), []int{0, 0, 1, 0}, []change{{ofAt, 0, 3}, {ofRegs, 2, 3}, {ofMem, 0, 1}}, [][]int{{3}, {}, {}}, true},
		{"stores at one place stay in order", programOf(threadOf(storeTo(2, 1), storeTo(2, 3))), []int{0, 0, 3}, []change{{ofAt, 0, 2}, {ofMem, 2, 1}}, [][]int{{}, {}, {3}}, true},
		{"a strong store behind one that is taken", programOf(threadOf(storeTo(0, 1), strong(storeTo(1, 3)))), []int{0, 1, 0}, []change{{ofAt, 0, 2}, {ofMem, 0, 1}, {ofMem, 1, 3}}, emptyBufs(3), true},
		{"a strong store behind one at another place that is not", programOf(threadOf(storeTo(0, 1), strong(storeTo(1, 3)))), []int{0, 0}, nil, nil, false},
		{"a strong load behind a store at another place", programOf(threadOf(storeTo(0, 1), strong(loadInto(1, 2)))), []int{0, 0}, nil, nil, false},
		{"a fence behind a store", programOf(threadOf(storeTo(0, 1), fences(1)[0])), []int{0, 0}, nil, nil, false},
		{"a fence behind two stores, of which one is taken", programOf(threadOf(storeTo(0, 1), storeTo(1, 1), fences(1)[0])), []int{0, 0, 2, 0}, nil, nil, false},
		{"a fence behind two stores, of which the other one is taken", programOf(threadOf(storeTo(0, 1), storeTo(1, 1), fences(1)[0])), []int{0, 0, 1, 0}, nil, nil, false},
		{"a fence behind two stores that are taken", programOf(threadOf(storeTo(0, 1), storeTo(1, 1), fences(1)[0])), []int{0, 0, 2, 1, 0}, []change{{ofAt, 0, 3}, {ofMem, 0, 1}, {ofMem, 1, 1}}, emptyBufs(3), true},
		{"a fence beside a store of another thread", programOf(storeAt(0), fences(1)), []int{0, 1}, []change{{ofAt, 0, 1}, {ofAt, 1, 1}}, oneBuf(6, 0, 1), true},
		{"a store that is taken twice", p, []int{0, 2, 2}, nil, nil, false},
		{"a store that is taken ahead of it", p, []int{2, 0}, nil, nil, false},
		{"a store that is taken from another place", p, []int{0, 3}, nil, nil, false},
		{"a store that is taken from another thread", p, []int{0, 5}, nil, nil, false},
		{"a thread that is done", p, []int{0, 0, 0}, nil, nil, false},
		{"a step that there is not", p, []int{0, 8}, nil, nil, false},
		{"a step that there is not, and one that there is", p, []int{-1, 0}, nil, nil, false},
		{"a step that cannot be done, and one that can", p, []int{7, 1}, nil, nil, false},
	}
	for _, c := range cases {
		want := impl.Spread{}
		if c.ok {
			want = spreadWith(beginWith(c.p, c.want...), c.bufs)
		}
		if s, ok := impl.SpreadPlay(c.p, c.steps); ok != c.ok || !sameSpread(s, want) {
			t.Errorf("%s: SpreadPlay = %v, %v, want %v, %v", c.name, s, ok, want, c.ok)
		}
	}
}

// spreadInTurn returns the state behind steps, done one behind the other from the beginning on, and whether all can be.
func spreadInTurn(p impl.Program, steps []int) (impl.Spread, bool) {
	s, ok := impl.SpreadBegin(p)
	for _, step := range steps {
		if ok {
			s, ok = impl.SpreadDo(p, s, step)
		}
	}
	return s, ok
}

// checkPlayed fails the test if steps, played, do not come to what they come to one by one. It returns whether all can be done.
func checkPlayed(t *testing.T, p impl.Program, steps []int) bool {
	t.Helper()
	want, ok := spreadInTurn(p, steps)
	s, did := impl.SpreadPlay(p, steps)
	if did != ok || !sameSpread(s, want) || !ok && !isNoSpread(s) {
		t.Fatalf("SpreadPlay(%v, %v) = %v, %v, want %v, %v", p, steps, s, did, want, ok)
	}
	return ok
}

func TestSpreadPlayAgainstSpreadDo(t *testing.T) {
	played, failed := 0, 0
	for _, p := range []impl.Program{passedOn(), storesAndLoads(), lostUpdate(), handOver(), twoWays(), skipped(), programOf(storeAt(0)), programOf(nil)} {
		for _, steps := range ordersUpTo(4, 4*len(p.Threads)) {
			if checkPlayed(t, p, steps) {
				played++
			} else {
				failed++
			}
		}
	}
	if played < 150 || failed < 1000 {
		t.Errorf("%d lists of steps can be done, and %d can not", played, failed)
	}
	for _, steps := range [][]int{make([]int, 7), make([]int, 100000), append(make([]int, 6), 1, 1, 1, 1, 1, 1, 1)} {
		if s, ok := impl.SpreadPlay(programOf(append(storeAt(0), fences(5)...)), steps); ok || !isNoSpread(s) {
			t.Errorf("SpreadPlay of %d steps = %v, %v", len(steps), s, ok)
		}
	}
}

// drawnSpreadSteps returns steps of a program that can be done one behind the other, till none can, and a number from which the next one goes on: each is drawn of those that can be done by multiplying and adding. Each takes its thread further, or leaves a buffer shorter.
func drawnSpreadSteps(p impl.Program, seed uint32) ([]int, uint32) {
	steps := []int{}
	b := plainSpread{s: plainBegin()}
	for {
		may := []int{}
		for step := range 4 * len(p.Threads) {
			if _, ok := plainSpreadStep(p, b, step); ok {
				may = append(may, step)
			}
		}
		if len(may) == 0 {
			return steps, seed
		}
		seed = seed*1664525 + 1013904223
		steps = append(steps, may[int(seed>>8)%len(may)])
		b, _ = plainSpreadStep(p, b, steps[len(steps)-1])
	}
}

func TestSpreadPlayOfLongLists(t *testing.T) {
	seed := uint32(5)
	steps := []int{}
	longest := 0
	for _, p := range append(bufPrograms(), largestPrograms()...) {
		steps, seed = drawnSpreadSteps(p, seed)
		for length := range len(steps) + 1 {
			if !checkPlayed(t, p, steps[:length]) {
				t.Fatalf("SpreadPlay(%v, %v) = false", p, steps[:length])
			}
		}
		for step := -1; step <= 4*len(p.Threads); step++ {
			if s, ok := impl.SpreadPlay(p, longer(steps, step)); ok || !isNoSpread(s) {
				t.Fatalf("SpreadPlay(%v, %v, %d) = %v, %v", p, steps, step, s, ok)
			}
		}
		longest = max(longest, len(steps))
	}
	if longest < 15 {
		t.Errorf("the longest list of steps has %d", longest)
	}
}

// passedOnWith returns a thread that stores at two places, with some statements between, and one that loads from them the other way round, with some statements between.
func passedOnWith(first []impl.Stmt, second []impl.Stmt) impl.Program {
	a := append(append(storeAt(0), first...), storeOf(1))
	return programOf(a, append(append(threadOf(loadInto(0, 1)), second...), loadInto(1, 0)))
}

// crossedStores returns two threads that store at two places, each the other way round.
func crossedStores() impl.Program {
	return programOf(threadOf(storeTo(0, 1), storeTo(1, 2)), threadOf(storeTo(1, 1), storeTo(0, 2)))
}

// spreadExamples returns programs of all that buffers for each place hang on.
func spreadExamples() []impl.Program {
	fence := fences(1)
	list := []impl.Program{
		crossedStores(), passedOnWith(fence, nil), passedOnWith(nil, fence), passedOnWith(fence, fence),
		passedOnWith(threadOf(storeTo(0, 2)), nil), passedOnWith(threadOf(storeOf(2)), threadOf(loadInto(2, 2))), passedOnWith(threadOf(loadInto(0, 0)), nil),
		passedOnWith(threadOf(strong(storeOf(2))), nil), passedOnWith(threadOf(strong(loadInto(1, 2))), threadOf(strong(loadInto(1, 2)))), passedOnWith(threadOf(addOf(2)), threadOf(skipOver(0, 1))),
		passedOnWith(threadOf(lockOf(0)), threadOf(lockOf(1))), passedOnWith(threadOf(sendTo(0)), threadOf(getFrom(0))), passedOnWith(threadOf(skipOver(0, 1)), threadOf(lets(1)[0])),
		programOf(threadOf(storeOf(0), strong(storeOf(1))), threadOf(loadInto(0, 1), loadInto(1, 0))),
		programOf(threadOf(strong(storeOf(0)), storeOf(1)), threadOf(loadInto(0, 1), loadInto(1, 0))),
		programOf(threadOf(storeOf(0), storeOf(1), unlockOf(0)), threadOf(loadInto(0, 1), loadInto(1, 0))),
		programOf(threadOf(lockOf(0), storeOf(0), storeOf(1), unlockOf(0)), threadOf(lockOf(0), loadInto(0, 1), loadInto(1, 0), unlockOf(0))),
		programOf(threadOf(storeOf(0), storeOf(1), sendTo(0)), threadOf(getFrom(0), loadInto(0, 1), loadInto(1, 0))),
		programOf(threadOf(storeTo(0, 1), storeTo(0, 2)), threadOf(loadInto(0, 0), loadInto(1, 0))),
		programOf(threadOf(storeOf(0), storeOf(1)), threadOf(loadInto(0, 1), storeOf(2)), threadOf(loadInto(0, 2), loadInto(1, 0))),
		programOf(threadOf(storeTo(0, 2), storeOf(1)), threadOf(loadInto(0, 1), storeOf(0))),
	}
	return append(list, bufExamples()...)
}

// onePlaceStmts returns statements that touch one place, or none.
func onePlaceStmts(place int) []impl.Stmt {
	return threadOf(
		storeTo(place, 1), storeTo(place, 2), storeTo(place, 3), impl.Stmt{Kind: impl.StStore, A: place, B: 0, C: 1}, strong(storeTo(place, 2)),
		loadInto(0, place), loadInto(1, place), strong(loadInto(0, place)), addOf(place), impl.Stmt{Kind: impl.StSwap, A: 1, B: place, C: 3},
		fences(1)[0], skipOver(0, 1), lets(4)[3], lockOf(0), unlockOf(0), sendTo(0), getFrom(0),
	)
}

// onePlacePrograms returns programs that touch one place alone.
func onePlacePrograms() []impl.Program {
	list := []impl.Program{overwritten()}
	for place := range 3 {
		list = append(list, mixedOf(onePlaceStmts(place)[:10], [][]int{{2, 2}, {3, 3}, {2, 2, 2}, {4, 3}}, 40, 51)...)
		list = append(list, mixedOf(onePlaceStmts(place), [][]int{{6}, {3, 2}, {2, 2, 1}, {4, 4}}, 40, 52)...)
	}
	return list
}

// passedPrograms returns programs of which one thread stores at places at which others load or store, so that many have outcomes that no buffers come to.
func passedPrograms() []impl.Program {
	return crossedOf([][][3]int{
		{{2, 0, 0}, {0, 0, 2}}, {{2, 1, 0}, {0, 1, 2}}, {{3, 0, 0}, {1, 0, 3}}, {{3, 0, 1}, {2, 0, 2}}, {{2, 0, 0}, {2, 0, 0}}, {{3, 1, 0}, {2, 1, 1}},
		{{2, 0, 0}, {0, 0, 2}, {0, 0, 2}}, {{2, 0, 0}, {1, 0, 1}, {0, 0, 2}}, {{2, 1, 0}, {2, 0, 1}, {1, 0, 1}},
	}, 60, 61)
}

// plainOnePlace reports whether all statements of a program that have a place have the same one.
func plainOnePlace(p impl.Program) bool {
	touched := [3]bool{}
	for _, stmts := range p.Threads {
		for _, st := range stmts {
			if thing, _ := plainThing(st); thing >= 0 && thing < 3 {
				touched[thing] = true
			}
		}
	}
	return !(touched[0] && touched[1]) && !(touched[0] && touched[2]) && !(touched[1] && touched[2])
}

// spreadCounts is how many programs there were, how many have outcomes that no buffers come to, how many touch one place alone, how many have no races, and how many states they come to.
type spreadCounts struct {
	all    int
	more   int
	alone  int
	free   int
	states int
}

// checkSpread fails the test if what a program comes to on the machine with a buffer for each place is not what all steps, plainly done, come to; if an outcome of buffers is missed; or if one is more with one place alone, or without races. It counts the program.
func (n *spreadCounts) checkSpread(t *testing.T, p impl.Program) {
	t.Helper()
	w := spreadWalkOf(p)
	list := impl.SpreadOutcomes(p)
	if !sameOutcomes(list, w.outcomes.outcomes) {
		t.Fatalf("SpreadOutcomes(%v) = %v, want %v", p, list, w.outcomes.outcomes)
	}
	bufs := impl.BufOutcomes(p)
	if missed := moreThan(bufs, list); len(missed) > 0 {
		t.Fatalf("%v has not the outcomes %v", p, missed)
	}
	alone, free := plainOnePlace(p), impl.RaceFree(p)
	if alone && !sameOutcomes(list, bufs) {
		t.Fatalf("%v touches one place alone, and comes to %v", p, list)
	}
	if free && !sameOutcomes(list, impl.Outcomes(p)) {
		t.Fatalf("%v has no races, and comes to %v", p, list)
	}
	n.all++
	n.states += len(w.states)
	if len(list) > len(bufs) {
		n.more++
	}
	if alone {
		n.alone++
	}
	if free {
		n.free++
	}
}

// searchedSpread returns the outcomes of the states to which a program comes by SpreadCan and SpreadDo, and in which no step can be done.
func searchedSpread(t *testing.T, p impl.Program) []impl.Outcome {
	t.Helper()
	begin, ok := impl.SpreadBegin(p)
	if !ok {
		t.Fatalf("SpreadBegin(%v) = %v", p, begin)
	}
	w := &spreadWalk{}
	w.addState(plainSpreadOf(begin))
	for i := 0; i < len(w.states); i++ {
		s := spreadOf(w.states[i], len(p.Threads))
		if !impl.SpreadOk(p, s) {
			t.Fatalf("SpreadOk(%v, %v) = false", p, s)
		}
		for step := range 4 * len(p.Threads) {
			if impl.SpreadCan(p, s, step) {
				next, _ := impl.SpreadDo(p, s, step)
				w.addState(plainSpreadOf(next))
			}
		}
		if checkSpreadSteps(t, p, w.states[i]) == 0 {
			o, _ := impl.OutcomeOf(p, s.State)
			w.outcomes.addOutcome(o)
		}
	}
	return w.outcomes.outcomes
}

func TestSpreadAgainstASearchBySpreadDo(t *testing.T) {
	for _, p := range append(append(append(spreadExamples(), fewPrograms()...), guardPrograms()...), passedPrograms()...) {
		outcomes := searchedSpread(t, p)
		if list := impl.SpreadOutcomes(p); !sameOutcomes(list, outcomes) {
			t.Errorf("SpreadOutcomes(%v) = %v, want %v", p, list, outcomes)
		}
	}
}

func TestSpreadAgainstAllSteps(t *testing.T) {
	n := spreadCounts{}
	for _, p := range append(append(append(spreadExamples(), bufPrograms()...), lockPrograms()...), allPrograms()...) {
		n.checkSpread(t, p)
	}
	if n.free < 500 || n.alone < 500 {
		t.Errorf("of %d programs, %d have no races, and %d touch one place alone", n.all, n.free, n.alone)
	}
}

func TestSpreadOfStoresPassedOn(t *testing.T) {
	n := spreadCounts{}
	for _, p := range append(passedPrograms(), crossedPrograms()...) {
		n.checkSpread(t, p)
	}
	if n.more < 50 || n.all-n.more < 50 {
		t.Errorf("of %d programs, %d have outcomes that no buffers come to", n.all, n.more)
	}
}

func TestSpreadWithOnePlaceAlone(t *testing.T) {
	n := spreadCounts{}
	for _, p := range onePlacePrograms() {
		n.checkSpread(t, p)
	}
	if n.alone != n.all || n.more != 0 {
		t.Errorf("of %d programs, %d touch one place alone, and %d have outcomes that no buffers come to", n.all, n.alone, n.more)
	}
}

func TestSpreadOfAllPairsOfShortThreads(t *testing.T) {
	n := spreadCounts{}
	threads := shortThreads(threadOf(storeTo(0, 1), storeTo(1, 2), loadInto(0, 0), loadInto(1, 1), strong(storeTo(0, 2)), strong(loadInto(0, 1)), fences(1)[0], addOf(1)))
	for _, a := range threads {
		for _, b := range threads {
			n.checkSpread(t, programOf(a, b))
		}
	}
	// A thread that stores at both places has an outcome more with one that loads from both, or one that does both, the other way round.
	if n.more < 5 || n.free < 100 || n.alone < 100 {
		t.Errorf("of %d programs, %d have outcomes that no buffers come to, %d no races, and %d one place alone", n.all, n.more, n.free, n.alone)
	}
}

func TestSpreadOfStoresPassedOnWithAll(t *testing.T) {
	n := spreadCounts{}
	threads := shortThreads(bufStmts())
	for i, a := range threads {
		n.checkSpread(t, passedOnWith(a, threads[i*7%len(threads)]))
		n.checkSpread(t, passedOnWith(a, nil))
	}
	if n.more < 100 || n.all-n.more < 100 {
		t.Errorf("of %d programs, %d have outcomes that no buffers come to", n.all, n.more)
	}
}

func TestSpreadOfTheLargestPrograms(t *testing.T) {
	n := spreadCounts{}
	for _, p := range largestPrograms() {
		n.checkSpread(t, p)
	}
	if n.states < 40000 {
		t.Errorf("%d programs come to %d states", n.all, n.states)
	}
}

// storesThen returns a thread that stores at two places, and then does some statements, and one that loads from both the other way round.
func storesThen(stmts ...impl.Stmt) impl.Program {
	return programOf(append(threadOf(storeOf(0), storeOf(1)), stmts...), threadOf(loadInto(0, 1), loadInto(1, 0)))
}

func TestSpreadOutcomesExamples(t *testing.T) {
	fence := fences(1)
	both := []bool{true, true}
	swap := impl.Stmt{Kind: impl.StSwap, A: 2, B: 2, C: 1}
	// The second store is seen, and the first one is not.
	second := []impl.Outcome{{Regs: []int{0, 0, 0, 1, 0, 0}, Mem: []int{1, 1, 0}, Done: both}}
	cases := []struct {
		name string
		p    impl.Program
		more []impl.Outcome
	}{
		{"stores in order, and loads the other way round", passedOn(), second},
		{"with a fence between the stores", passedOnWith(fence, nil), nil},
		{"with a fence between the loads", passedOnWith(nil, fence), second},
		{"with a fence between both", passedOnWith(fence, fence), nil},
		{"with fences ahead and behind", programOf(append(fences(1), storesThen(fence...).Threads[0]...), append(fences(1), passedOn().Threads[1]...)), second},
		{"with a store at a third place between", passedOnWith(threadOf(storeTo(2, 3)), nil), []impl.Outcome{{Regs: []int{0, 0, 0, 1, 0, 0}, Mem: []int{1, 1, 3}, Done: both}}},
		{"with a strong store at a third place between", passedOnWith(threadOf(strong(storeTo(2, 3))), nil), nil},
		{"with a strong load from a third place between", passedOnWith(threadOf(strong(loadInto(0, 2))), nil), nil},
		{"with a load from a third place between", passedOnWith(threadOf(loadInto(0, 2)), nil), second},
		{"with a load of the own store between", passedOnWith(threadOf(loadInto(2, 0)), nil), []impl.Outcome{{Regs: []int{0, 0, 1, 1, 0, 0}, Mem: []int{1, 1, 0}, Done: both}}},
		{"with a let and a skip between", passedOnWith(threadOf(impl.Stmt{Kind: impl.StLet, A: 1, B: -1, C: 0}, skipOver(0, 6)), nil), nil},
		{"with a let and a skip over nothing between", passedOnWith(threadOf(impl.Stmt{Kind: impl.StLet, A: 1, B: -1, C: 2}, skipOver(1, 6)), nil), []impl.Outcome{{Regs: []int{0, 2, 0, 1, 0, 0}, Mem: []int{1, 1, 0}, Done: both}}},
		{"with a swap of a third place between", passedOnWith(threadOf(swap), nil), nil},
		{"with an add to a third place between", passedOnWith(threadOf(addOf(2)), nil), nil},
		{"with a lock between", passedOnWith(threadOf(lockOf(1)), nil), nil},
		{"with a send between", passedOnWith(threadOf(sendTo(1)), nil), nil},
		{"with a get between", programOf(append(append(storeAt(0), getFrom(0)), storeOf(1)), append(passedOn().Threads[1], sendTo(0))), nil},
		{"with a strong second store", programOf(threadOf(storeOf(0), strong(storeOf(1))), passedOn().Threads[1]), nil},
		{"with a strong first store", programOf(threadOf(strong(storeOf(0)), storeOf(1)), passedOn().Threads[1]), nil},
		{"with strong loads", programOf(passedOn().Threads[0], threadOf(strong(loadInto(0, 1)), strong(loadInto(1, 0)))), second},
		{"with a skip over the second load", programOf(passedOn().Threads[0], threadOf(loadInto(0, 1), skipOver(0, 1), loadInto(1, 0))), second},
		{"with a fence behind the stores", storesThen(fence[0]), second},
		{"with what waits for ever behind the stores", storesThen(unlockOf(0)), []impl.Outcome{{Regs: []int{0, 0, 0, 1, 0, 0}, Mem: []int{1, 1, 0}, Done: []bool{false, true}}}},
		{"with another store at the first place behind", storesThen(storeTo(0, 2)), []impl.Outcome{{Regs: []int{0, 0, 0, 1, 0, 0}, Mem: []int{2, 1, 0}, Done: both}}},
		{"with a load of the own stores behind", storesThen(loadInto(0, 0), loadInto(1, 1)), []impl.Outcome{{Regs: []int{1, 1, 0, 1, 0, 0}, Mem: []int{1, 1, 0}, Done: both}}},
		{"behind a send", programOf(append(passedOn().Threads[0], sendTo(0)), append(threadOf(getFrom(0)), passedOn().Threads[1]...)), nil},
		{"under a lock", programOf(threadOf(lockOf(0), storeOf(0), storeOf(1), unlockOf(0)), threadOf(lockOf(0), loadInto(0, 1), loadInto(1, 0), unlockOf(0))), nil},
		{"under two locks", programOf(threadOf(lockOf(0), storeOf(0), storeOf(1), unlockOf(0)), threadOf(lockOf(1), loadInto(0, 1), loadInto(1, 0), unlockOf(1))), second},
		{"stores at two places, each the other way round", crossedStores(), []impl.Outcome{{Regs: make([]int, 6), Mem: []int{1, 1, 0}, Done: both}}},
		{"with a fence in one thread", programOf(threadOf(storeTo(0, 1), fence[0], storeTo(1, 2)), crossedStores().Threads[1]), []impl.Outcome{{Regs: make([]int, 6), Mem: []int{1, 1, 0}, Done: both}}},
		{"with a fence in both", programOf(threadOf(storeTo(0, 1), fence[0], storeTo(1, 2)), threadOf(storeTo(1, 1), fence[0], storeTo(0, 2))), nil},
		{"a store behind a load of the second one", programOf(threadOf(storeTo(0, 2), storeOf(1)), threadOf(loadInto(0, 1), storeOf(0))), []impl.Outcome{{Regs: []int{0, 0, 0, 1, 0, 0}, Mem: []int{2, 1, 0}, Done: both}}},
		{"a load behind a store at the second place", programOf(threadOf(storeOf(0), storeOf(1)), threadOf(storeTo(1, 2), loadInto(0, 0))), nil},
		{"each stores, and loads the other one's", storesAndLoads(), nil},
		{"each loads its own store, too", ownLoads(), nil},
		{"a place that only one thread touches", programOf(threadOf(storeOf(2), storeOf(0)), threadOf(loadInto(0, 0))), nil},
		{"places that each only one thread touches", programOf(threadOf(storeOf(0), storeOf(1), loadInto(0, 0)), threadOf(storeOf(2), loadInto(0, 2))), nil},
		{"stores at one place, and loads", programOf(threadOf(storeTo(0, 1), storeTo(0, 2)), threadOf(loadInto(0, 0), loadInto(1, 0))), nil},
		{"a store that another one overwrites", overwritten(), nil},
		{"loads ahead of stores", programOf(threadOf(loadInto(0, 0), storeOf(1)), threadOf(loadInto(0, 1), storeOf(0))), nil},
		{"a second store that is passed on", programOf(threadOf(storeOf(0), storeOf(1)), threadOf(loadInto(0, 1), storeOf(2)), threadOf(loadInto(0, 2), loadInto(1, 0))), []impl.Outcome{
			{Regs: []int{0, 0, 0, 1, 0, 0, 1, 0, 0}, Mem: []int{1, 1, 1}, Done: []bool{true, true, true}},
		}},
		{"one store that is passed on", seenByOthers(), nil},
	}
	for _, c := range cases {
		list, bufs := impl.SpreadOutcomes(c.p), impl.BufOutcomes(c.p)
		if more := moreThan(list, bufs); !sameOutcomes(more, c.more) || len(list) != len(bufs)+len(more) {
			t.Errorf("%s: SpreadOutcomes = %v, and more than BufOutcomes %v, want %v", c.name, list, more, c.more)
		}
	}
}

func TestSpreadOutcomesOfFew(t *testing.T) {
	both := []bool{true, true}
	cases := []struct {
		name string
		p    impl.Program
		want []impl.Outcome
	}{
		{"a thread without statements", programOf(nil), []impl.Outcome{{Regs: make([]int, 3), Mem: make([]int, 3), Done: []bool{true}}}},
		{"threads without statements", programOf(nil, nil, nil), []impl.Outcome{{Regs: make([]int, 9), Mem: make([]int, 3), Done: []bool{true, true, true}}}},
		{"a store", programOf(storeAt(2)), []impl.Outcome{{Regs: make([]int, 3), Mem: []int{0, 0, 1}, Done: []bool{true}}}},
		{"six stores", programOf(threadOf(storeTo(0, 1), storeTo(1, 2), storeTo(2, 3), storeTo(0, 2), storeTo(1, 1), storeTo(2, 1))), []impl.Outcome{{Regs: make([]int, 3), Mem: []int{2, 1, 1}, Done: []bool{true}}}},
		{"a store and what waits for ever", programOf(threadOf(storeOf(1), getFrom(0))), []impl.Outcome{{Regs: make([]int, 3), Mem: []int{0, 1, 0}, Done: []bool{false}}}},
		{"stores in order, and loads the other way round", passedOn(), []impl.Outcome{
			{Regs: make([]int, 6), Mem: []int{1, 1, 0}, Done: both},
			{Regs: []int{0, 0, 0, 0, 1, 0}, Mem: []int{1, 1, 0}, Done: both},
			{Regs: []int{0, 0, 0, 1, 0, 0}, Mem: []int{1, 1, 0}, Done: both},
			{Regs: []int{0, 0, 0, 1, 1, 0}, Mem: []int{1, 1, 0}, Done: both},
		}},
		{"stores at two places, each the other way round", crossedStores(), []impl.Outcome{
			{Regs: make([]int, 6), Mem: []int{1, 1, 0}, Done: both},
			{Regs: make([]int, 6), Mem: []int{1, 2, 0}, Done: both},
			{Regs: make([]int, 6), Mem: []int{2, 1, 0}, Done: both},
			{Regs: make([]int, 6), Mem: []int{2, 2, 0}, Done: both},
		}},
	}
	for _, c := range cases {
		if list := impl.SpreadOutcomes(c.p); !sameOutcomes(list, c.want) {
			t.Errorf("%s: SpreadOutcomes = %v, want %v", c.name, list, c.want)
		}
	}
}

// roomyPlaceBufs returns buffers for each place of three threads that lie in one array with room between, and that array.
func roomyPlaceBufs() ([][]int, []int) {
	array := []int{2, 3, 7, 7, 1, 7, 0, 1, 2, 7, 7, 3, 7, 7}
	bufs := make([][]int, 0, 12)
	bufs = append(bufs, array[0:2], array[2:2], array[4:5], array[5:5], array[6:9], array[9:9], array[11:12], array[12:12], array[13:13])
	return bufs, array
}

// checkRoomyPlaces fails the test if a roomy program, roomy buffers for each place, or their arrays, are not as they were.
func checkRoomyPlaces(t *testing.T, name string, p impl.Program, stmts []impl.Stmt, bufs [][]int, numbers []int) {
	t.Helper()
	freshProgram, freshStmts := roomyStores()
	checkRoomy(t, name, p, stmts, freshProgram, freshStmts)
	freshBufs, freshNumbers := roomyPlaceBufs()
	if !sameOrderLists(bufs, freshBufs) || !sameNumbers(numbers, freshNumbers) {
		t.Errorf("%s has changed buffers: %v, %v", name, bufs, numbers)
	}
	for _, buf := range bufs[:12][9:] {
		if buf != nil {
			t.Errorf("%s has written behind its buffers", name)
		}
	}
}

// spoilSpread writes into all lists of a state, up to where their room ends, and into the list of its buffers.
func spoilSpread(t *testing.T, name string, s impl.Spread) {
	t.Helper()
	spoilBuffered(t, name, impl.Buffered{State: s.State, Bufs: s.Bufs})
}

func TestSpreadStatesAreNewMemory(t *testing.T) {
	p, stmts := roomyStores()
	bufs, numbers := roomyPlaceBufs()
	state, array := roomyState()
	s := spreadWith(state, bufs)
	done := 0
	for step := -1; step <= 12; step++ {
		want, _ := impl.SpreadDo(p, copiedSpread(s), step)
		next, ok := impl.SpreadDo(p, s, step)
		again, _ := impl.SpreadDo(p, s, step)
		if ok != impl.SpreadCan(p, s, step) || !sameSpread(next, want) {
			t.Errorf("SpreadDo(%v, %d) = %v, want %v", s, step, next, want)
		}
		if ok {
			done++
		}
		spoilSpread(t, "SpreadDo", next)
		if !sameSpread(again, want) {
			t.Errorf("two states behind the step %d share memory: %v", step, again)
		}
		for place := -1; place <= 3; place++ {
			impl.SpreadReads(p, s, step, place)
		}
		impl.SpreadOk(p, s)
		checkState(t, "what is asked of a state with buffers, or writing to what it returned,", array)
		checkRoomyPlaces(t, "what is asked of a state with buffers, or writing to what it returned,", p, stmts, bufs, numbers)
	}
	// The threads that store can go on with any buffers, and the one that adds can not; four buffers are not empty.
	if done != 6 {
		t.Errorf("%d steps can be done", done)
	}
}

func TestSpreadBeginAndSpreadPlayReturnNewMemory(t *testing.T) {
	p, stmts := roomyStores()
	bufs, numbers := roomyPlaceBufs()
	room := []int{0, 1, 2, 0, 1, 11, 2, 7, 7}
	for length := range 8 {
		steps := room[:length]
		begin, _ := impl.SpreadBegin(p)
		s, ok := impl.SpreadPlay(p, steps)
		firstBegin, first := copiedSpread(begin), copiedSpread(s)
		otherBegin, _ := impl.SpreadBegin(p)
		other, _ := impl.SpreadPlay(p, steps)
		spoilSpread(t, "SpreadBegin", begin)
		spoilSpread(t, "SpreadPlay", s)
		if !ok || !sameSpread(otherBegin, firstBegin) || !sameSpread(other, first) {
			t.Errorf("SpreadPlay(%v) = %v, or two answers share memory: %v, %v", steps, ok, otherBegin, other)
		}
		checkRoomyPlaces(t, "SpreadBegin or SpreadPlay", p, stmts, bufs, numbers)
		if !sameNumbers(room, []int{0, 1, 2, 0, 1, 11, 2, 7, 7}) {
			t.Errorf("SpreadPlay has changed its steps: %v", room)
		}
	}
}

func TestSpreadOutcomesReturnNewMemory(t *testing.T) {
	fresh := append(spreadExamples(), fewPrograms()...)
	for i, p := range append(spreadExamples(), fewPrograms()...) {
		list, other := impl.SpreadOutcomes(p), impl.SpreadOutcomes(p)
		spoil(t, "SpreadOutcomes", list)
		want := spreadWalkOf(p).outcomes.outcomes
		if !sameOutcomes(other, want) || !sameOutcomes(impl.SpreadOutcomes(p), want) {
			t.Errorf("two answers share memory: %v", other)
		}
		if !sameProgram(p, fresh[i]) {
			t.Errorf("SpreadOutcomes has changed %v", p)
		}
	}
	p, stmts := roomyStores()
	bufs, numbers := roomyPlaceBufs()
	spoil(t, "SpreadOutcomes", impl.SpreadOutcomes(p))
	checkRoomyPlaces(t, "SpreadOutcomes", p, stmts, bufs, numbers)
}
