package tests

import (
	"math"
	"testing"

	"loop.example/wholethreads/impl"
)

// storeTo returns a store of a value at a place.
func storeTo(place int, value int) impl.Stmt {
	return impl.Stmt{Kind: impl.StStore, A: place, B: -1, C: value}
}

// loadInto returns a load from a place into a register.
func loadInto(r int, place int) impl.Stmt { return impl.Stmt{Kind: impl.StLoad, A: r, B: place} }

// strong returns a load or a store as a strong one.
func strong(s impl.Stmt) impl.Stmt {
	s.Strong = true
	return s
}

// sameBuffered reports whether two states have the same lists and the same buffers.
func sameBuffered(a impl.Buffered, b impl.Buffered) bool {
	return sameState(a.State, b.State) && sameOrderLists(a.Bufs, b.Bufs)
}

// isNoBuffered reports whether a state has nothing.
func isNoBuffered(s impl.Buffered) bool { return sameBuffered(s, impl.Buffered{}) }

// withBufs returns a state with buffers.
func withBufs(s impl.State, bufs ...[]int) impl.Buffered { return impl.Buffered{State: s, Bufs: bufs} }

// emptyBufs returns so many empty buffers.
func emptyBufs(count int) [][]int {
	bufs := [][]int{}
	for range count {
		bufs = append(bufs, []int{})
	}
	return bufs
}

// copiedBuffered returns a state that shares no memory with another one, and has the same.
func copiedBuffered(s impl.Buffered) impl.Buffered {
	bufs := [][]int{}
	for _, list := range s.Bufs {
		bufs = append(bufs, append([]int{}, list...))
	}
	return withBufs(copied(s.State), bufs...)
}

func TestBufBegin(t *testing.T) {
	for _, p := range append(threadedPrograms(), allPrograms()...) {
		begin, _ := impl.Begin(p)
		s, ok := impl.BufBegin(p)
		if !ok || !sameBuffered(s, withBufs(begin, emptyBufs(len(p.Threads))...)) || !impl.BufOk(p, s) {
			t.Errorf("BufBegin(%v) = %v, %v", p, s, ok)
		}
	}
}

// fullBuf returns places and values of so many stores by turns.
func fullBuf(stores int) []int {
	list := []int{}
	for i := range stores {
		list = append(list, i%3, (i+1)%4)
	}
	return list
}

func TestBufOkOfHowManyBuffers(t *testing.T) {
	for _, p := range threadedPrograms() {
		begin, _ := impl.Begin(p)
		for count := range 6 {
			for stores := range 7 {
				bufs := emptyBufs(count)
				if count > 0 {
					bufs[count-1] = fullBuf(stores)
				}
				if impl.BufOk(p, withBufs(begin, bufs...)) != (count == len(p.Threads)) {
					t.Errorf("%d threads, %d buffers: BufOk = %v", len(p.Threads), count, count != len(p.Threads))
				}
			}
		}
		if impl.BufOk(p, withBufs(begin)) || !impl.BufOk(p, withBufs(begin, make([][]int, len(p.Threads))...)) {
			t.Errorf("%d threads: BufOk tells nil from empty", len(p.Threads))
		}
	}
}

func TestBufOkOfHowManyStores(t *testing.T) {
	for _, p := range threadedPrograms() {
		begin, _ := impl.Begin(p)
		for thread := range p.Threads {
			for length := range 40 {
				bufs := emptyBufs(len(p.Threads))
				bufs[thread] = fullBuf(20)[:length]
				want := length%2 == 0 && length <= 12
				if s := withBufs(begin, bufs...); impl.BufOk(p, s) != want || impl.BufCan(p, s, len(p.Threads)+thread) != (want && length > 0) {
					t.Errorf("a buffer of %d numbers: BufOk = %v, BufCan = %v", length, impl.BufOk(p, s), impl.BufCan(p, s, len(p.Threads)+thread))
				}
			}
		}
	}
}

func TestBufOkAtEachNumber(t *testing.T) {
	spans := []span{{0, 2}, {0, 3}}
	for _, p := range threadedPrograms() {
		begin, _ := impl.Begin(p)
		for thread := range p.Threads {
			for at := range 12 {
				for _, n := range []int{math.MinInt, -64, -2, -1, 0, 1, 2, 3, 4, 5, 8, 16, 64, math.MaxInt} {
					bufs := emptyBufs(len(p.Threads))
					bufs[thread] = fullBuf(6)
					bufs[thread][at] = n
					if impl.BufOk(p, withBufs(begin, bufs...)) != spans[at%2].has(n) {
						t.Errorf("%d threads: BufOk with %d in the buffer %d at %d = %v", len(p.Threads), n, thread, at, !spans[at%2].has(n))
					}
				}
			}
		}
	}
}

func TestBufOkOfWhatNoStepsComeTo(t *testing.T) {
	p := programOf(fences(1), nil)
	for _, s := range []impl.State{
		{At: []int{0, 0}, Regs: []int{3, 3, 3, 3, 3, 3}, Mem: []int{3, 3, 3}, Owner: []int{1, 1}, Chan: []int{3, 3}},
		{At: []int{1, 0}, Regs: []int{0, 1, 2, 3, 0, 1}, Mem: []int{2, 3, 0}, Owner: []int{0, 1}, Chan: []int{0, -1}},
	} {
		for _, bufs := range [][][]int{{{}, {}}, {{2, 3}, {}}, {fullBuf(6), fullBuf(6)}, {{}, {0, 0, 0, 0}}} {
			if !impl.BufOk(p, withBufs(s, bufs...)) {
				t.Errorf("BufOk(%v, %v) = false", s, bufs)
			}
		}
	}
}

// brokenBufs returns what are no buffers of a program.
func brokenBufs(p impl.Program) [][][]int {
	threads := len(p.Threads)
	list := [][][]int{nil, emptyBufs(threads - 1), emptyBufs(threads + 1), emptyBufs(threads + 64)}
	for thread := range threads {
		for _, buf := range [][]int{{0}, {0, 1, 2}, fullBuf(7), fullBuf(7)[:13], fullBuf(64), {3, 0}, {-1, 0}, {0, 4}, {0, -1}, {0, 1, 3, 1}, {0, 1, 0, 4}, {0, 1, math.MaxInt, 0}, {0, math.MinInt}} {
			bufs := emptyBufs(threads)
			bufs[thread] = buf
			list = append(list, bufs)
		}
	}
	return list
}

// checkNoBuffered fails the test if there is an answer about what is no state of a program on the machine with buffers.
func checkNoBuffered(t *testing.T, p impl.Program, s impl.Buffered) {
	t.Helper()
	if impl.BufOk(p, s) {
		t.Errorf("BufOk(%v, %v) = true", p, s)
	}
	for step := -1; step <= 7; step++ {
		next, ok := impl.BufDo(p, s, step)
		if impl.BufCan(p, s, step) || ok || !isNoBuffered(next) {
			t.Errorf("BufDo(%v, %v, %d) = %v, %v", p, s, step, next, ok)
		}
		for place := -1; place <= 3; place++ {
			if read := impl.BufReads(p, s, step, place); read != -1 {
				t.Errorf("BufReads(%v, %v, %d, %d) = %d", p, s, step, place, read)
			}
		}
	}
}

func TestBufferedStatesThatAreNone(t *testing.T) {
	programs := append(threadedPrograms(), storesAndLoads(), handOver(), manyReads())
	for _, p := range programs {
		begin, _ := impl.Begin(p)
		threads := len(p.Threads)
		for _, s := range brokenStates(p) {
			checkNoBuffered(t, p, withBufs(s, emptyBufs(threads)...))
			checkNoBuffered(t, p, withBufs(s, append(emptyBufs(threads-1), fullBuf(2))...))
		}
		for _, bufs := range brokenBufs(p) {
			checkNoBuffered(t, p, withBufs(begin, bufs...))
		}
		checkNoBuffered(t, p, impl.Buffered{})
		for _, q := range programs {
			if s, _ := impl.BufBegin(q); len(q.Threads) != threads {
				checkNoBuffered(t, p, s)
			}
		}
	}
}

// storedNoPrograms returns programs that are none: those of the other chapters, and such with too many stores or threads, or one number too great.
func storedNoPrograms() []impl.Program {
	stores := threadOf(storeOf(0), storeOf(1), storeOf(2), storeOf(0), storeOf(1), storeOf(2), storeOf(0))
	list := []impl.Program{
		programOf(stores), programOf(stores[:6], stores[:4]), programOf(stores[:1], stores[:1], stores[:1], stores[:1]),
		programOf(threadOf(storeOf(3))), programOf(threadOf(storeTo(0, 4))), programOf(threadOf(loadInto(0, 3))), programOf(threadOf(strong(fences(1)[0]))),
	}
	return append(append(list, noPrograms()...), lockedNoPrograms()...)
}

func TestBuffersOfWhatIsNoProgram(t *testing.T) {
	for _, p := range storedNoPrograms() {
		if s, ok := impl.BufBegin(p); ok || !isNoBuffered(s) {
			t.Errorf("BufBegin(%v) = %v, %v", p, s, ok)
		}
		checkNoBuffered(t, p, impl.Buffered{})
		checkNoBuffered(t, p, withBufs(beginAnyway(p), emptyBufs(len(p.Threads))...))
		checkNoBuffered(t, p, withBufs(beginAnyway(p), append([][]int{{0, 1}}, emptyBufs(max(len(p.Threads)-1, 0))...)...))
		for _, steps := range [][]int{nil, {}, {0}, {1}, {-1}, {0, 1}} {
			if s, ok := impl.BufPlay(p, steps); ok || !isNoBuffered(s) {
				t.Errorf("BufPlay(%v, %v) = %v, %v", p, steps, s, ok)
			}
		}
		if list := impl.BufOutcomes(p); len(list) != 0 {
			t.Errorf("BufOutcomes(%v) = %v", p, list)
		}
		if count := impl.BufCount(p); count != -1 {
			t.Errorf("BufCount(%v) = %d", p, count)
		}
	}
}

func TestBufReadsExamples(t *testing.T) {
	// The places have 3, 2 and 1.
	cases := []struct {
		name string
		bufs [][]int
		want [2][3]int
	}{
		{"empty buffers", [][]int{{}, {}}, [2][3]int{{3, 2, 1}, {3, 2, 1}}},
		{"a store of each place", [][]int{{0, 0, 1, 3, 2, 2}, {}}, [2][3]int{{0, 3, 2}, {3, 2, 1}}},
		{"a store of the first place", [][]int{{0, 1}, {}}, [2][3]int{{1, 2, 1}, {3, 2, 1}}},
		{"a store of nought at the first place", [][]int{{0, 0}, {}}, [2][3]int{{0, 2, 1}, {3, 2, 1}}},
		{"a store of the last place", [][]int{{2, 3}, {}}, [2][3]int{{3, 2, 3}, {3, 2, 1}}},
		{"a store of what the place has", [][]int{{1, 2}, {}}, [2][3]int{{3, 2, 1}, {3, 2, 1}}},
		{"a store of another thread alone", [][]int{{}, {1, 0}}, [2][3]int{{3, 2, 1}, {3, 0, 1}}},
		{"stores of both threads at one place", [][]int{{1, 0}, {1, 3}}, [2][3]int{{3, 0, 1}, {3, 3, 1}}},
		{"stores of both threads at two places", [][]int{{1, 0}, {2, 3}}, [2][3]int{{3, 0, 1}, {3, 2, 3}}},
		{"two stores of one place", [][]int{{1, 0, 1, 3}, {}}, [2][3]int{{3, 3, 1}, {3, 2, 1}}},
		{"two stores of one place, the newest one of nought", [][]int{{}, {1, 3, 1, 0}}, [2][3]int{{3, 2, 1}, {3, 0, 1}}},
		{"two stores of one place, and one of another one behind", [][]int{{1, 0, 1, 3, 2, 0}, {}}, [2][3]int{{3, 3, 0}, {3, 2, 1}}},
		{"two stores of one place, and one of another one between", [][]int{{1, 0, 0, 2, 1, 1}, {}}, [2][3]int{{2, 1, 1}, {3, 2, 1}}},
		{"six stores of one place", [][]int{{0, 0, 0, 1, 0, 2, 0, 0, 0, 3, 0, 1}, {}}, [2][3]int{{1, 2, 1}, {3, 2, 1}}},
		{"six stores, the oldest one alone of its place", [][]int{{2, 3, 0, 1, 0, 2, 0, 0, 0, 3, 0, 2}, {2, 2}}, [2][3]int{{2, 2, 3}, {3, 2, 2}}},
		{"full buffers", [][]int{{0, 0, 1, 0, 2, 0, 0, 1, 1, 1, 2, 3}, {2, 0, 1, 0, 0, 0, 2, 2, 1, 3, 0, 1}}, [2][3]int{{1, 1, 3}, {1, 3, 2}}},
	}
	for _, c := range cases {
		// What a thread reads does not hang on what it does next, nor on whether it is done.
		for _, p := range []impl.Program{programOf(nil, nil), storesAndLoads(), programOf(threadOf(strong(loadOf(0))), fences(1))} {
			for thread, places := range c.want {
				for place, want := range places {
					if read := impl.BufReads(p, withBufs(filled(), c.bufs...), thread, place); read != want {
						t.Errorf("%s: what the thread %d reads at %d = %d, want %d", c.name, thread, place, read, want)
					}
				}
			}
		}
	}
}

func TestBufReadsOfWhatIsNotThere(t *testing.T) {
	for _, p := range threadedPrograms() {
		begin, _ := impl.Begin(p)
		bufs := emptyBufs(len(p.Threads))
		bufs[0] = fullBuf(6)
		s := withBufs(begin, bufs...)
		for _, thread := range noThreads(len(p.Threads)) {
			for place := range 3 {
				if read := impl.BufReads(p, s, thread, place); read != -1 {
					t.Errorf("of %d threads, %d reads %d", len(p.Threads), thread, read)
				}
			}
		}
		for _, place := range noThreads(3) {
			for thread := range p.Threads {
				if read := impl.BufReads(p, s, thread, place); read != -1 {
					t.Errorf("at the place %d, a thread reads %d", place, read)
				}
			}
		}
	}
}

// bufCase is a statement that does not wait in a filled state, whether it waits for the buffer of its thread, and what is changed with the buffer 0 2 1 1 or, if it waits, with an empty one.
type bufCase struct {
	name  string
	s     impl.Stmt
	waits bool
	want  []change
	buf   []int
}

func bufCases() []bufCase {
	kept := []int{0, 2, 1, 1}
	return []bufCase{
		{"a let", impl.Stmt{Kind: impl.StLet, A: 2, B: 0, C: 1}, false, []change{{ofRegs, 2, 2}}, kept},
		{"a load of what is in the buffer", loadInto(2, 0), false, []change{{ofRegs, 2, 2}}, kept},
		{"a load of what is last in the buffer", loadInto(0, 1), false, []change{{ofRegs, 0, 1}}, kept},
		{"a load of what is not in the buffer", loadInto(1, 2), false, []change{{ofRegs, 1, 1}}, kept},
		{"a strong load", strong(loadInto(1, 0)), true, []change{{ofRegs, 1, 3}}, nil},
		{"a strong load of what is not in the buffer", strong(loadInto(1, 2)), true, []change{{ofRegs, 1, 1}}, nil},
		{"a store of a value", storeTo(2, 3), false, nil, []int{0, 2, 1, 1, 2, 3}},
		{"a store of a sum", impl.Stmt{Kind: impl.StStore, A: 1, B: 2, C: 2}, false, nil, []int{0, 2, 1, 1, 1, 1}},
		{"a store of nought at the first place", storeTo(0, 0), false, nil, []int{0, 2, 1, 1, 0, 0}},
		{"a store of what is in the buffer", storeTo(1, 1), false, nil, []int{0, 2, 1, 1, 1, 1}},
		{"a strong store", strong(storeTo(2, 3)), true, []change{{ofMem, 2, 3}}, nil},
		{"a strong store of a sum", strong(impl.Stmt{Kind: impl.StStore, A: 0, B: 1, C: 3}), true, []change{{ofMem, 0, 1}}, nil},
		{"a swap", impl.Stmt{Kind: impl.StSwap, A: 0, B: 0, C: 2}, true, []change{{ofRegs, 0, 3}, {ofMem, 0, 2}}, nil},
		{"a swap of what is not in the buffer", impl.Stmt{Kind: impl.StSwap, A: 0, B: 2, C: 2}, true, []change{{ofRegs, 0, 1}, {ofMem, 2, 2}}, nil},
		{"an add", impl.Stmt{Kind: impl.StAdd, A: 1, B: 1, C: 3}, true, []change{{ofRegs, 1, 2}, {ofMem, 1, 1}}, nil},
		{"a fence", fences(1)[0], true, nil, nil},
		{"a lock", lockOf(0), true, []change{{ofOwner, 0, 0}}, nil},
		{"a send", impl.Stmt{Kind: impl.StSend, A: 0, B: 1, C: 1}, true, []change{{ofChan, 0, 3}}, nil},
		{"a get", getFrom(1), true, []change{{ofRegs, 1, 2}, {ofChan, 1, -1}}, nil},
		{"a skip over nothing", skipOver(0, 1), false, nil, kept},
	}
}

func TestBufDoOfEachKind(t *testing.T) {
	for _, c := range bufCases() {
		p := programOf(append(threadOf(c.s), fences(2)...), fences(1))
		full := withBufs(filled(), []int{0, 2, 1, 1}, []int{2, 0})
		empty := withBufs(filled(), []int{}, []int{2, 0})
		s := full
		if c.waits {
			s = empty
		}
		if impl.BufCan(p, full, 0) == c.waits || !impl.BufCan(p, empty, 0) {
			t.Errorf("%s: BufCan = %v with a buffer that is not empty, and %v with an empty one", c.name, impl.BufCan(p, full, 0), impl.BufCan(p, empty, 0))
		}
		want := withBufs(changed(changed(filled(), c.want), []change{{ofAt, 0, 1}}), c.buf, []int{2, 0})
		if next, ok := impl.BufDo(p, s, 0); !ok || !sameBuffered(next, want) {
			t.Errorf("%s: BufDo = %v, %v, want %v", c.name, next, ok, want)
		}
		if next, ok := impl.BufDo(p, full, 0); ok == c.waits || isNoBuffered(next) != c.waits {
			t.Errorf("%s: BufDo with a buffer that is not empty = %v, %v", c.name, next, ok)
		}
		// With empty buffers all but the store that is put behind is done as without them.
		if c.s.Kind == impl.StStore && !c.s.Strong {
			continue
		}
		alone := withBufs(filled(), nil, nil)
		done, _ := impl.Do(p, filled(), 0)
		if next, ok := impl.BufDo(p, alone, 0); !ok || !sameBuffered(next, withBufs(done, nil, nil)) {
			t.Errorf("%s: BufDo with empty buffers = %v, %v, want %v", c.name, next, ok, done)
		}
	}
}

// waitCase is a statement, changes of a filled state, and whether the first thread can do it then with empty buffers.
type waitCase struct {
	name    string
	s       impl.Stmt
	changes []change
	want    bool
}

func waitCases() []waitCase {
	return []waitCase{
		{"a lock that nobody has", lockOf(1), []change{{ofOwner, 1, -1}}, true},
		{"a lock that the thread itself has", lockOf(1), []change{{ofOwner, 1, 0}}, false},
		{"a lock that another thread has", lockOf(1), []change{{ofOwner, 1, 1}}, false},
		{"unlocking what nobody has", unlockOf(1), []change{{ofOwner, 1, -1}}, false},
		{"unlocking what the thread itself has", unlockOf(1), []change{{ofOwner, 1, 0}}, true},
		{"unlocking what another thread has", unlockOf(1), []change{{ofOwner, 1, 1}}, false},
		{"a send to a channel that is empty", sendTo(1), []change{{ofChan, 1, -1}}, true},
		{"a send to a channel that has 0", sendTo(1), []change{{ofChan, 1, 0}}, false},
		{"a get from a channel that is empty", getFrom(1), []change{{ofChan, 1, -1}}, false},
		{"a get from a channel that has 0", getFrom(1), []change{{ofChan, 1, 0}}, true},
	}
}

func TestBufWaiting(t *testing.T) {
	for _, c := range waitCases() {
		p := programOf(threadOf(c.s), threadOf(c.s))
		s := changed(filled(), c.changes)
		for _, other := range [][]int{nil, {0, 1}, fullBuf(6)} {
			if impl.BufCan(p, withBufs(s, nil, other), 0) != c.want {
				t.Errorf("%s: BufCan with an empty buffer = %v", c.name, !c.want)
			}
			if impl.BufCan(p, withBufs(s, []int{2, 3}, other), 0) || impl.BufCan(p, withBufs(s, fullBuf(6), other), 0) {
				t.Errorf("%s: BufCan with a buffer that is not empty = true", c.name)
			}
		}
	}
}

func TestTakingStores(t *testing.T) {
	p := programOf(fences(1), nil, storeAt(0))
	begin, _ := impl.Begin(p)
	// The buffers of threads that are done, or have no statements, are taken from as well.
	for _, at := range [][]change{nil, {{ofAt, 0, 1}}, {{ofAt, 0, 1}, {ofAt, 2, 1}}} {
		s := changed(begin, append([]change{{ofMem, 0, 3}, {ofMem, 1, 3}, {ofMem, 2, 3}}, at...))
		bufs := [][]int{{1, 2}, {0, 0, 2, 1}, {2, 0, 0, 1, 2, 2, 1, 1, 0, 2, 1, 0}}
		wants := []impl.Buffered{
			withBufs(changed(s, []change{{ofMem, 1, 2}}), nil, bufs[1], bufs[2]),
			withBufs(changed(s, []change{{ofMem, 0, 0}}), bufs[0], []int{2, 1}, bufs[2]),
			withBufs(changed(s, []change{{ofMem, 2, 0}}), bufs[0], bufs[1], bufs[2][2:]),
		}
		for thread, want := range wants {
			if next, ok := impl.BufDo(p, withBufs(s, bufs...), 3+thread); !ok || !sameBuffered(next, want) || !impl.BufCan(p, withBufs(s, bufs...), 3+thread) {
				t.Errorf("the oldest store of the thread %d: BufDo = %v, %v, want %v", thread, next, ok, want)
			}
			without := append([][]int{}, bufs...)
			without[thread] = nil
			if next, ok := impl.BufDo(p, withBufs(s, without...), 3+thread); ok || !isNoBuffered(next) || impl.BufCan(p, withBufs(s, without...), 3+thread) {
				t.Errorf("the oldest store of the thread %d, whose buffer is empty: BufDo = %v, %v", thread, next, ok)
			}
		}
	}
}

func TestStepsThatThereAreNot(t *testing.T) {
	for _, p := range append(threadedPrograms(), storesAndLoads(), programOf(storeAt(0)), programOf(storeAt(0), storeAt(1), storeAt(2))) {
		begin, _ := impl.Begin(p)
		for _, buf := range [][]int{nil, {0, 1}, fullBuf(6)} {
			bufs := [][]int{}
			for range p.Threads {
				bufs = append(bufs, buf)
			}
			for _, step := range noThreads(2 * len(p.Threads)) {
				next, ok := impl.BufDo(p, withBufs(begin, bufs...), step)
				if ok || !isNoBuffered(next) || impl.BufCan(p, withBufs(begin, bufs...), step) {
					t.Errorf("of %d threads: BufDo of the step %d = %v, %v", len(p.Threads), step, next, ok)
				}
				if s, ok := impl.BufPlay(p, []int{step}); ok || !isNoBuffered(s) {
					t.Errorf("of %d threads: BufPlay of the step %d = %v, %v", len(p.Threads), step, s, ok)
				}
			}
		}
	}
}

func TestBuffersAtTheEndOfAThread(t *testing.T) {
	stores := threadOf(storeTo(0, 1), storeTo(1, 2), storeTo(2, 3), storeTo(0, 2), storeTo(1, 1), storeTo(2, 1))
	p := programOf(stores, threadOf(loadInto(0, 0), loadInto(1, 1), loadInto(2, 2)))
	s, ok := impl.BufPlay(p, []int{0, 0, 0, 0, 0, 0})
	begin, _ := impl.Begin(p)
	want := withBufs(changed(begin, []change{{ofAt, 0, 6}}), []int{0, 1, 1, 2, 2, 3, 0, 2, 1, 1, 2, 1}, nil)
	if !ok || !sameBuffered(s, want) || !impl.BufOk(p, s) {
		t.Fatalf("BufPlay = %v, %v, want %v", s, ok, want)
	}
	if impl.BufCan(p, s, 0) || !impl.BufCan(p, s, 2) || impl.BufCan(p, s, 3) {
		t.Errorf("behind all stores: BufCan = %v, %v, %v", impl.BufCan(p, s, 0), impl.BufCan(p, s, 2), impl.BufCan(p, s, 3))
	}
	mems := [][]int{{1, 0, 0}, {1, 2, 0}, {1, 2, 3}, {2, 2, 3}, {2, 1, 3}, {2, 1, 1}}
	for taken, mem := range mems {
		s, ok = impl.BufDo(p, s, 2)
		if !ok || !sameNumbers(s.State.Mem, mem) || len(s.Bufs[0]) != 10-2*taken {
			t.Errorf("behind %d stores that are taken: BufDo = %v, %v, want %v", taken+1, s, ok, mem)
		}
	}
	if _, ok := impl.BufDo(p, s, 2); ok || impl.BufCan(p, s, 0) {
		t.Errorf("a step can be done behind %v", s)
	}
}

// No steps come to a store behind MaxStmts others, but a state may tell of one; it is done with any buffer, as all such are.
func TestAStoreBehindAFullBuffer(t *testing.T) {
	p := programOf(threadOf(storeTo(2, 3), loadInto(0, 2)), nil)
	begin, _ := impl.Begin(p)
	full := withBufs(begin, fullBuf(6), fullBuf(6))
	want := withBufs(changed(begin, []change{{ofAt, 0, 1}}), append(fullBuf(6), 2, 3), fullBuf(6))
	next, ok := impl.BufDo(p, full, 0)
	if !ok || !impl.BufCan(p, full, 0) || !sameBuffered(next, want) {
		t.Errorf("BufDo = %v, %v, want %v", next, ok, want)
	}
	checkNoBuffered(t, p, next)
}

func TestBufSkip(t *testing.T) {
	for length := 1; length <= 4; length++ {
		for at := range length {
			for count := 1; count <= 6; count++ {
				for has := range 4 {
					stmts := fences(length)
					stmts[at] = skipOver(1, count)
					p := programOf(nil, stmts)
					s := beginWith(p, change{ofAt, 1, at}, change{ofRegs, 4, has})
					to := at + 1
					if has == 0 {
						to = min(at+1+count, length)
					}
					for _, buf := range [][]int{nil, {1, 1}, fullBuf(6)} {
						next, ok := impl.BufDo(p, withBufs(s, buf, buf), 1)
						if want := withBufs(changed(s, []change{{ofAt, 1, to}}), buf, buf); !ok || !sameBuffered(next, want) {
							t.Errorf("a skip over %d of %d at %d: BufDo = %v, %v, want %v", count, length, at, next, ok, want)
						}
					}
				}
			}
		}
	}
}

// someBufs returns buffers of one thread: none, one, two and six stores.
func someBufs() [][]int {
	return [][]int{{}, {0, 1}, {2, 0}, {1, 3, 1, 2}, {0, 2, 1, 1}, {2, 1, 0, 0, 2, 3}, fullBuf(6)}
}

// checkSteps fails the test if what can be done in a state, what that comes to, or what threads read in it, is not what is plainly told. It returns how many steps can be done.
func checkSteps(t *testing.T, p impl.Program, b plainBuffered) int {
	t.Helper()
	s := bufferedOf(b, len(p.Threads))
	can := 0
	for step := -1; step <= 2*len(p.Threads); step++ {
		want, ok := plainBufStep(p, b, step)
		next, did := impl.BufDo(p, s, step)
		if did != ok || impl.BufCan(p, s, step) != ok {
			t.Fatalf("BufDo(%v, %v, %d) = %v, %v", p, s, step, next, did)
		}
		if ok && !sameBuffered(next, bufferedOf(want, len(p.Threads))) || !ok && !isNoBuffered(next) {
			t.Fatalf("BufDo(%v, %v, %d) = %v, %v, want %v", p, s, step, next, did, want)
		}
		if ok {
			can++
		}
	}
	for thread := range p.Threads {
		for place := range 3 {
			if read := impl.BufReads(p, s, thread, place); read != plainReads(b, thread, place) {
				t.Fatalf("BufReads(%v, %v, %d, %d) = %d", p, s, thread, place, read)
			}
		}
	}
	return can
}

// statesOfThree returns states of three threads that have not the same in registers, places, locks and channels.
func statesOfThree() []impl.State {
	return []impl.State{
		{At: []int{0, 0, 0}, Regs: []int{1, 2, 3, 0, 1, 2, 3, 0, 1}, Mem: []int{3, 2, 1}, Owner: []int{-1, 0}, Chan: []int{-1, 2}},
		{At: []int{0, 0, 1}, Regs: []int{0, 0, 2, 3, 3, 3, 0, 0, 0}, Mem: []int{0, 1, 3}, Owner: []int{0, 2}, Chan: []int{0, -1}},
		{At: []int{0, 0, 0}, Regs: []int{3, 1, 0, 0, 2, 1, 1, 1, 1}, Mem: []int{1, 0, 2}, Owner: []int{1, -1}, Chan: []int{3, 1}},
	}
}

func TestStepsOfEachStatement(t *testing.T) {
	states := statesOfThree()
	for _, st := range goodStmts() {
		first, last := programOf(threadOf(st, fences(1)[0]), nil, fences(1)), programOf(fences(2), nil, threadOf(st))
		for i, s := range states {
			for k, buf := range someBufs() {
				other := someBufs()[(i+k)%7]
				checkSteps(t, first, plainBufferedOf(withBufs(s, buf, other, nil)))
				checkSteps(t, last, plainBufferedOf(withBufs(s, other, nil, buf)))
			}
		}
	}
}

func TestBufPlayExamples(t *testing.T) {
	p := storesAndLoads()
	cases := []struct {
		name  string
		p     impl.Program
		steps []int
		want  []change
		bufs  [][]int
		ok    bool
	}{
		{"no steps", p, nil, nil, [][]int{nil, nil}, true},
		{"no steps of one thread", programOf(nil), []int{}, nil, [][]int{nil}, true},
		{"a store", p, []int{0}, []change{{ofAt, 0, 1}}, [][]int{{0, 1}, nil}, true},
		{"a store that is taken", p, []int{0, 2}, []change{{ofAt, 0, 1}, {ofMem, 0, 1}}, [][]int{nil, nil}, true},
		{"a store of the other thread", p, []int{1}, []change{{ofAt, 1, 1}}, [][]int{nil, {1, 1}}, true},
		{"a store of the other thread that is taken", p, []int{1, 3}, []change{{ofAt, 1, 1}, {ofMem, 1, 1}}, [][]int{nil, nil}, true},
		{"both load ahead of the stores", p, []int{0, 0, 1, 1}, []change{{ofAt, 0, 2}, {ofAt, 1, 2}}, [][]int{{0, 1}, {1, 1}}, true},
		{"both load ahead of the stores, which are taken", p, []int{0, 1, 0, 1, 3, 2}, []change{{ofAt, 0, 2}, {ofAt, 1, 2}, {ofMem, 0, 1}, {ofMem, 1, 1}}, [][]int{nil, nil}, true},
		{"one loads behind the other one's store", p, []int{0, 2, 1, 1, 0}, []change{{ofAt, 0, 2}, {ofAt, 1, 2}, {ofRegs, 3, 1}, {ofMem, 0, 1}}, [][]int{nil, {1, 1}}, true},
		{"a load of what is in the own buffer", programOf(threadOf(storeTo(0, 1), storeTo(0, 3), loadInto(2, 0))), []int{0, 0, 0}, []change{{ofAt, 0, 3}, {ofRegs, 2, 3}}, [][]int{{0, 1, 0, 3}}, true},
		{"a load of it behind the older store", programOf(threadOf(storeTo(0, 1), storeTo(0, 3), loadInto(2, 0))), []int{0, 0, 1, 0}, []change{{ofAt, 0, 3}, {ofRegs, 2, 3}, {ofMem, 0, 1}}, [][]int{{0, 3}}, true},
		{"a strong store behind one that is taken", programOf(threadOf(storeTo(0, 1), strong(storeTo(1, 3)))), []int{0, 1, 0}, []change{{ofAt, 0, 2}, {ofMem, 0, 1}, {ofMem, 1, 3}}, [][]int{nil}, true},
		{"a strong store behind one that is not", programOf(threadOf(storeTo(0, 1), strong(storeTo(1, 3)))), []int{0, 0}, nil, nil, false},
		{"a strong load behind a store", programOf(threadOf(storeTo(0, 1), strong(loadInto(1, 0)))), []int{0, 0}, nil, nil, false},
		{"a fence behind a store", programOf(threadOf(storeTo(0, 1), fences(1)[0])), []int{0, 0}, nil, nil, false},
		{"a fence beside a store of another thread", programOf(storeAt(0), fences(1)), []int{0, 1}, []change{{ofAt, 0, 1}, {ofAt, 1, 1}}, [][]int{{0, 1}, nil}, true},
		{"a store that is taken twice", p, []int{0, 2, 2}, nil, nil, false},
		{"a store that is taken ahead of it", p, []int{2, 0}, nil, nil, false},
		{"a thread that is done", p, []int{0, 0, 0}, nil, nil, false},
		{"a step that there is not", p, []int{0, 4}, nil, nil, false},
		{"a step that there is not, and one that there is", p, []int{-1, 0}, nil, nil, false},
		{"a step that cannot be done, and one that can", p, []int{3, 1}, nil, nil, false},
	}
	for _, c := range cases {
		want := impl.Buffered{}
		if c.ok {
			want = withBufs(beginWith(c.p, c.want...), c.bufs...)
		}
		if s, ok := impl.BufPlay(c.p, c.steps); ok != c.ok || !sameBuffered(s, want) {
			t.Errorf("%s: BufPlay = %v, %v, want %v, %v", c.name, s, ok, want, c.ok)
		}
	}
}

// doneInTurn returns the state behind steps, done one behind the other from the beginning on, and whether all can be.
func doneInTurn(p impl.Program, steps []int) (impl.Buffered, bool) {
	s, ok := impl.BufBegin(p)
	for _, step := range steps {
		if ok {
			s, ok = impl.BufDo(p, s, step)
		}
	}
	return s, ok
}

func TestBufPlayAgainstBufDo(t *testing.T) {
	played, failed := 0, 0
	for _, p := range []impl.Program{storesAndLoads(), lostUpdate(), crossedLocks(), handOver(), twoWays(), skipped(), handOn(), programOf(storeAt(0)), programOf(nil)} {
		for _, steps := range ordersUpTo(4, 2*len(p.Threads)) {
			want, ok := doneInTurn(p, steps)
			s, did := impl.BufPlay(p, steps)
			if did != ok || !sameBuffered(s, want) {
				t.Fatalf("BufPlay(%v, %v) = %v, %v, want %v, %v", p, steps, s, did, want, ok)
			}
			if ok {
				played++
			} else {
				failed++
			}
		}
	}
	if played < 150 || failed < 1000 {
		t.Errorf("%d lists of steps can be done, and %d can not", played, failed)
	}
	for _, steps := range [][]int{make([]int, 7), make([]int, 100000), append(make([]int, 6), 1, 1, 1, 1, 1, 1, 1)} {
		if s, ok := impl.BufPlay(programOf(append(storeAt(0), fences(5)...)), steps); ok || !isNoBuffered(s) {
			t.Errorf("BufPlay of %d steps = %v, %v", len(steps), s, ok)
		}
	}
}

// drawnSteps returns steps of a program that can be done one behind the other, till none can, and a number from which the next one goes on: each is drawn of those that can be done by multiplying and adding. Each takes its thread further, or leaves a buffer shorter.
func drawnSteps(p impl.Program, seed uint32) ([]int, uint32) {
	steps := []int{}
	b := plainBuffered{s: plainBegin()}
	for {
		may := []int{}
		for step := range 2 * len(p.Threads) {
			if _, ok := plainBufStep(p, b, step); ok {
				may = append(may, step)
			}
		}
		if len(may) == 0 {
			return steps, seed
		}
		seed = seed*1664525 + 1013904223
		steps = append(steps, may[int(seed>>8)%len(may)])
		b, _ = plainBufStep(p, b, steps[len(steps)-1])
	}
}

func TestBufPlayOfLongLists(t *testing.T) {
	seed := uint32(3)
	steps := []int{}
	longest := 0
	for _, p := range append(bufPrograms(), largestPrograms()...) {
		steps, seed = drawnSteps(p, seed)
		for length := range len(steps) + 1 {
			want, ok := doneInTurn(p, steps[:length])
			s, did := impl.BufPlay(p, steps[:length])
			if !ok || !did || !sameBuffered(s, want) {
				t.Fatalf("BufPlay(%v, %v) = %v, %v, want %v, %v", p, steps[:length], s, did, want, ok)
			}
		}
		for step := -1; step <= 2*len(p.Threads); step++ {
			if s, ok := impl.BufPlay(p, longer(steps, step)); ok || !isNoBuffered(s) {
				t.Fatalf("BufPlay(%v, %v, %d) = %v, %v", p, steps, step, s, ok)
			}
		}
		longest = max(longest, len(steps))
	}
	if longest < 15 {
		t.Errorf("the longest list of steps has %d", longest)
	}
}

// passedOn returns a thread that stores at two places, and one that loads from them the other way round.
func passedOn() impl.Program {
	return programOf(threadOf(storeOf(0), storeOf(1)), threadOf(loadInto(0, 1), loadInto(1, 0)))
}

// storesAndLoadsWith returns two threads that each store at a place of their own, do some statements, and load from the other one's place.
func storesAndLoadsWith(first []impl.Stmt, second []impl.Stmt) impl.Program {
	a := append(append(storeAt(0), first...), loadInto(0, 1))
	return programOf(a, append(append(storeAt(1), second...), loadInto(0, 0)))
}

// ownLoads returns two threads that each store, load that, and then load from the other one's place.
func ownLoads() impl.Program {
	return programOf(
		threadOf(storeOf(0), loadInto(1, 0), loadInto(0, 1)),
		threadOf(storeOf(1), loadInto(1, 1), loadInto(0, 0)),
	)
}

// seenByOthers returns two threads that each store, and two loads of a third one.
func seenByOthers() impl.Program {
	return programOf(storeAt(0), threadOf(loadInto(0, 0), storeOf(1)), threadOf(loadInto(0, 1), loadInto(1, 0)))
}

// twoInBuffer returns a thread that stores twice at one place and loads from another one, and one that does the like.
func twoInBuffer() impl.Program {
	return programOf(
		threadOf(storeTo(0, 1), storeTo(0, 2), loadInto(0, 1)),
		threadOf(storeTo(1, 1), loadInto(0, 0)),
	)
}

// overwritten returns a thread that stores and loads that, while another one stores there too.
func overwritten() impl.Program {
	return programOf(threadOf(storeTo(0, 1), loadInto(0, 0)), threadOf(storeTo(0, 2)))
}

// bufExamples returns programs of all that buffers hang on.
func bufExamples() []impl.Program {
	fence := fences(1)
	swap := impl.Stmt{Kind: impl.StSwap, A: 2, B: 2, C: 1}
	sums := threadOf(impl.Stmt{Kind: impl.StLet, A: 0, B: -1, C: 2}, impl.Stmt{Kind: impl.StStore, A: 0, B: 0, C: 3}, impl.Stmt{Kind: impl.StLet, A: 0, B: 0, C: 1}, impl.Stmt{Kind: impl.StStore, A: 0, B: 0, C: 1})
	return []impl.Program{
		passedOn(), ownLoads(), seenByOthers(), twoInBuffer(), overwritten(), programOf(sums, threadOf(loadOf(0), loadInto(1, 0))),
		storesAndLoadsWith(fence, nil), storesAndLoadsWith(nil, fence), storesAndLoadsWith(fence, fence), storesAndLoadsWith(threadOf(swap), threadOf(swap)),
		storesAndLoadsWith(threadOf(addOf(2)), fence), storesAndLoadsWith(threadOf(lockOf(0)), threadOf(lockOf(1))), storesAndLoadsWith(threadOf(sendTo(0)), threadOf(sendTo(1))),
		storesAndLoadsWith(threadOf(strong(storeOf(2))), threadOf(strong(loadInto(1, 2)))), storesAndLoadsWith(threadOf(lets(1)[0]), threadOf(skipOver(2, 1))),
		storesAndLoadsWith(threadOf(storeOf(2)), threadOf(loadInto(2, 2))), storesAndLoadsWith(threadOf(getFrom(0)), threadOf(sendTo(0))),
		programOf(threadOf(strong(storeOf(0)), loadInto(0, 1)), threadOf(strong(storeOf(1)), loadInto(0, 0))),
		programOf(threadOf(storeOf(0), strong(loadInto(0, 1))), threadOf(storeOf(1), strong(loadInto(0, 0)))),
		programOf(threadOf(storeOf(0), lockOf(0)), threadOf(lockOf(0), loadInto(0, 0))),
		programOf(threadOf(storeOf(0), lockOf(0), lockOf(0)), threadOf(getFrom(0), loadOf(0)), threadOf(loadOf(0))),
		programOf(threadOf(lockOf(1), storeOf(0), unlockOf(1)), threadOf(lockOf(1), loadOf(0), unlockOf(1))),
		programOf(threadOf(storeOf(0), sendTo(0)), threadOf(getFrom(0), loadOf(0))),
		programOf(threadOf(storeOf(0), unlockOf(0)), threadOf(loadOf(0), skipOver(0, 6), storeOf(1))),
		programOf(threadOf(storeTo(0, 1), storeTo(1, 2), storeTo(2, 3), storeTo(0, 2), storeTo(1, 1), storeTo(2, 1))),
	}
}

// bufStmts returns statements of all kinds, stores and loads above all.
func bufStmts() []impl.Stmt {
	return threadOf(
		storeTo(0, 1), storeTo(0, 2), storeTo(1, 1), storeTo(1, 3), storeTo(2, 2), impl.Stmt{Kind: impl.StStore, A: 0, B: 0, C: 1}, impl.Stmt{Kind: impl.StStore, A: 1, B: 1, C: 2},
		loadInto(0, 0), loadInto(1, 0), loadInto(0, 1), loadInto(1, 1), loadInto(2, 2),
		strong(storeTo(0, 3)), strong(storeTo(1, 2)), strong(loadInto(0, 0)), strong(loadInto(1, 1)),
		addOf(0), impl.Stmt{Kind: impl.StSwap, A: 1, B: 1, C: 3}, fences(1)[0], impl.Stmt{Kind: impl.StLet, A: 0, B: 1, C: 1}, skipOver(0, 1), skipOver(1, 2),
		lockOf(0), unlockOf(0), sendTo(0), getFrom(0),
	)
}

// storeStmts returns stores, loads and fences alone, so that buffers become long.
func storeStmts() []impl.Stmt {
	return threadOf(
		storeTo(0, 1), storeTo(0, 2), storeTo(1, 1), storeTo(1, 2), storeTo(2, 1), impl.Stmt{Kind: impl.StStore, A: 2, B: 0, C: 1},
		loadInto(0, 0), loadInto(1, 1), loadInto(2, 2), loadInto(1, 0), fences(1)[0],
	)
}

// mixedOf returns so many programs of drawn statements with threads of each of such lengths.
func mixedOf(stmts []impl.Stmt, lengths [][]int, count int, seed uint32) []impl.Program {
	list := []impl.Program{}
	p := impl.Program{}
	for _, each := range lengths {
		for range count {
			p, seed = mixedProgram(stmts, each, seed)
			list = append(list, p)
		}
	}
	return list
}

// bufPrograms returns programs of stores and loads.
func bufPrograms() []impl.Program {
	lengths := [][]int{{6}, {2, 2}, {3, 2}, {1, 2, 1}, {2, 2, 1}, {3, 3}, {4, 2}, {2, 2, 2}, {1, 3, 1}}
	list := append(bufExamples(), mixedOf(bufStmts(), lengths, 60, 21)...)
	return append(list, mixedOf(storeStmts(), lengths, 60, 22)...)
}

// crossedThread returns a thread of so many drawn stores, some drawn statements, and so many drawn loads, and a number from which the next one goes on.
func crossedThread(stores int, between int, loads int, seed uint32) ([]impl.Stmt, uint32) {
	all := bufStmts()
	list := []impl.Stmt{}
	p := impl.Program{}
	for _, draw := range []struct {
		stmts []impl.Stmt
		count int
	}{{all[:7], stores}, {all, between}, {all[7:12], loads}} {
		p, seed = mixedProgram(draw.stmts, []int{draw.count}, seed)
		list = append(list, p.Threads[0]...)
	}
	return list, seed
}

// crossedOf returns so many programs with threads of each of such drawn stores, statements and loads.
func crossedOf(counts [][][3]int, count int, seed uint32) []impl.Program {
	list := []impl.Program{}
	for _, threads := range counts {
		for range count {
			p := impl.Program{}
			for _, each := range threads {
				stmts := []impl.Stmt{}
				stmts, seed = crossedThread(each[0], each[1], each[2], seed)
				p.Threads = append(p.Threads, stmts)
			}
			list = append(list, p)
		}
	}
	return list
}

// crossedPrograms returns programs whose threads store first, and load then, so that many have outcomes that no interleavings have.
func crossedPrograms() []impl.Program {
	return crossedOf([][][3]int{
		{{1, 0, 1}, {1, 0, 1}}, {{1, 1, 1}, {1, 0, 1}}, {{2, 0, 1}, {1, 1, 1}}, {{1, 1, 2}, {2, 0, 2}}, {{2, 1, 2}, {1, 1, 2}},
		{{1, 0, 1}, {1, 0, 1}, {1, 0, 0}}, {{1, 0, 1}, {1, 0, 1}, {1, 0, 1}}, {{1, 1, 1}, {0, 0, 2}, {1, 0, 1}},
	}, 80, 41)
}

// largestPrograms returns programs of as many statements as there may be.
func largestPrograms() []impl.Program {
	list := []impl.Program{
		programOf(threadOf(storeTo(0, 1), storeTo(1, 1), storeTo(2, 1)), threadOf(storeTo(0, 2), storeTo(1, 2), storeTo(2, 2)), threadOf(storeTo(0, 3), storeTo(1, 3), storeTo(2, 3))),
		programOf(threadOf(storeTo(0, 1), storeTo(1, 1), storeTo(2, 1), storeTo(0, 2), storeTo(1, 2), storeTo(2, 3)), threadOf(storeTo(0, 3), storeTo(1, 2), storeTo(2, 0))),
		programOf(nil, threadOf(loadInto(0, 0), loadInto(1, 1), loadInto(2, 2)), threadOf(storeTo(0, 1), storeTo(1, 1), storeTo(2, 1), storeTo(0, 2), storeTo(1, 2), storeTo(2, 3))),
		programOf(threadOf(storeTo(0, 1), loadInto(0, 1), loadInto(1, 2)), threadOf(storeTo(1, 2), loadInto(0, 0), loadInto(1, 2)), threadOf(storeTo(2, 3), loadInto(0, 0), loadInto(1, 1))),
		programOf(threadOf(sendTo(0), sendTo(1), storeTo(0, 3)), threadOf(getFrom(0), storeTo(0, 2), sendTo(0)), threadOf(getFrom(1), storeTo(0, 1), lockOf(1))),
		programOf(threadOf(lockOf(0), storeTo(0, 1), unlockOf(0)), threadOf(lockOf(1), storeTo(1, 3), unlockOf(1)), threadOf(loadInto(0, 0), storeTo(2, 1), loadInto(2, 1))),
	}
	lengths := [][]int{{3, 3, 3}, {6, 3}, {4, 5}, {5, 2, 2}}
	list = append(list, mixedOf(bufStmts(), lengths, 12, 31)...)
	return append(list, mixedOf(storeStmts(), lengths, 12, 32)...)
}

// bufCounts is how many programs there were, how many have the outcomes of their interleavings alone, how many have no races, and how many states they come to.
type bufCounts struct {
	all    int
	same   int
	free   int
	states int
}

// checkBuffers fails the test if what a program comes to on the machine with buffers is not what all steps, plainly done, come to; if an outcome of interleavings is missed; or if one is more without races. It counts the program.
func (n *bufCounts) checkBuffers(t *testing.T, p impl.Program) {
	t.Helper()
	w := bufWalkOf(p)
	list := impl.BufOutcomes(p)
	if !sameOutcomes(list, w.outcomes.outcomes) {
		t.Fatalf("BufOutcomes(%v) = %v, want %v", p, list, w.outcomes.outcomes)
	}
	if count := impl.BufCount(p); count != len(w.states) {
		t.Fatalf("BufCount(%v) = %d, want %d", p, count, len(w.states))
	}
	orders := impl.Outcomes(p)
	for _, o := range orders {
		if !impl.OutcomesHave(list, o) {
			t.Fatalf("%v has not the outcome %v", p, o)
		}
	}
	free := impl.RaceFree(p)
	if free && !sameOutcomes(list, orders) {
		t.Fatalf("%v has no races, and comes to %v", p, list)
	}
	n.all++
	n.states += len(w.states)
	if free {
		n.free++
	}
	if len(list) == len(orders) {
		n.same++
	}
}

// searched returns the states to which a program comes by BufCan and BufDo, each once, and the outcomes of those in which no step can be done.
func searched(t *testing.T, p impl.Program) ([]plainBuffered, []impl.Outcome) {
	t.Helper()
	begin, ok := impl.BufBegin(p)
	if !ok {
		t.Fatalf("BufBegin(%v) = %v", p, begin)
	}
	w := bufWalk{}
	w.addState(plainBufferedOf(begin))
	for i := 0; i < len(w.states); i++ {
		s := bufferedOf(w.states[i], len(p.Threads))
		if !impl.BufOk(p, s) {
			t.Fatalf("BufOk(%v, %v) = false", p, s)
		}
		for step := range 2 * len(p.Threads) {
			if impl.BufCan(p, s, step) {
				next, _ := impl.BufDo(p, s, step)
				w.addState(plainBufferedOf(next))
			}
		}
		if checkSteps(t, p, w.states[i]) == 0 {
			o, _ := impl.OutcomeOf(p, s.State)
			w.outcomes.addOutcome(o)
		}
	}
	return w.states, w.outcomes.outcomes
}

func TestBuffersAgainstASearchByBufDo(t *testing.T) {
	for _, p := range append(append(bufExamples(), fewPrograms()...), guardPrograms()...) {
		states, outcomes := searched(t, p)
		if list := impl.BufOutcomes(p); !sameOutcomes(list, outcomes) {
			t.Errorf("BufOutcomes(%v) = %v, want %v", p, list, outcomes)
		}
		if count := impl.BufCount(p); count != len(states) {
			t.Errorf("BufCount(%v) = %d, want %d", p, count, len(states))
		}
	}
}

func TestBuffersAgainstAllSteps(t *testing.T) {
	n := bufCounts{}
	for _, p := range append(append(bufPrograms(), lockPrograms()...), allPrograms()...) {
		n.checkBuffers(t, p)
	}
	if n.free < 500 || n.same-n.free < 500 {
		t.Errorf("of %d programs, %d have no outcome more, and %d have no races", n.all, n.same, n.free)
	}
}

func TestBuffersOfStoresAheadOfLoads(t *testing.T) {
	n := bufCounts{}
	for _, p := range crossedPrograms() {
		n.checkBuffers(t, p)
	}
	if n.all-n.same < 50 || n.free < 10 {
		t.Errorf("of %d programs, %d have no outcome more, and %d have no races", n.all, n.same, n.free)
	}
}

func TestStepsInAllStatesOfBuffers(t *testing.T) {
	steps := 0
	for _, p := range bufPrograms() {
		for _, b := range bufWalkOf(p).states {
			steps += checkSteps(t, p, b)
		}
	}
	if steps < 10000 {
		t.Errorf("%d steps can be done", steps)
	}
}

func TestBuffersOfAllPairsOfShortThreads(t *testing.T) {
	n := bufCounts{}
	threads := shortThreads(threadOf(storeTo(0, 1), storeTo(1, 1), loadInto(0, 0), loadInto(1, 1), strong(storeTo(0, 2)), strong(loadInto(0, 1)), fences(1)[0], addOf(1), skipOver(0, 1), sendTo(0), getFrom(0)))
	for _, a := range threads {
		for _, b := range threads {
			n.checkBuffers(t, programOf(a, b))
		}
	}
	// With two statements each, only the two threads that both store and then load from the other one's place have an outcome more.
	if n.all-n.same < 1 || n.free < 100 {
		t.Errorf("of %d programs, %d have no outcome more, and %d have no races", n.all, n.same, n.free)
	}
}

func TestBuffersOfStoresAndLoadsWithAll(t *testing.T) {
	n := bufCounts{}
	threads := shortThreads(bufStmts())
	for i, a := range threads {
		n.checkBuffers(t, storesAndLoadsWith(a, threads[i*7%len(threads)]))
		n.checkBuffers(t, storesAndLoadsWith(nil, a))
	}
	if n.all-n.same < 100 || n.same < 100 {
		t.Errorf("of %d programs, %d have no outcome more", n.all, n.same)
	}
}

func TestBuffersOfTheLargestPrograms(t *testing.T) {
	n := bufCounts{}
	for _, p := range largestPrograms() {
		n.checkBuffers(t, p)
	}
	if n.states < 20000 {
		t.Errorf("%d programs come to %d states", n.all, n.states)
	}
}

// moreThan returns those of some outcomes that others have not.
func moreThan(list []impl.Outcome, others []impl.Outcome) []impl.Outcome {
	more := []impl.Outcome{}
	for _, o := range list {
		if !impl.OutcomesHave(others, o) {
			more = append(more, o)
		}
	}
	return more
}

func TestBufOutcomesExamples(t *testing.T) {
	fence := fences(1)
	swap := impl.Stmt{Kind: impl.StSwap, A: 2, B: 2, C: 1}
	both := []bool{true, true}
	noughts := []impl.Outcome{{Regs: make([]int, 6), Mem: []int{1, 1, 0}, Done: both}}
	cases := []struct {
		name string
		p    impl.Program
		more []impl.Outcome
	}{
		{"each stores, and loads the other one's", storesAndLoads(), noughts},
		{"with a fence in the first thread", storesAndLoadsWith(fence, nil), noughts},
		{"with a fence in the second thread", storesAndLoadsWith(nil, fence), noughts},
		{"with a fence in both", storesAndLoadsWith(fence, fence), nil},
		{"with fences ahead of the stores", programOf(append(fences(1), storesAndLoads().Threads[0]...), append(fences(2), storesAndLoads().Threads[1]...)), noughts},
		{"with a swap of another place in both", storesAndLoadsWith(threadOf(swap), threadOf(swap)), nil},
		{"with an add, and a fence", storesAndLoadsWith(threadOf(addOf(2)), fence), nil},
		{"with locks", storesAndLoadsWith(threadOf(lockOf(0)), threadOf(lockOf(1))), nil},
		{"with sends", storesAndLoadsWith(threadOf(sendTo(0)), threadOf(sendTo(1))), nil},
		{"with a send and a get", storesAndLoadsWith(threadOf(sendTo(0)), threadOf(getFrom(0))), nil},
		{"with a strong store and a strong load of another place", storesAndLoadsWith(threadOf(strong(storeTo(2, 0))), threadOf(strong(loadInto(1, 2)))), nil},
		{"with a store and a load of another place", storesAndLoadsWith(threadOf(storeTo(2, 0)), threadOf(loadInto(1, 2))), noughts},
		{"with a let and a skip", storesAndLoadsWith(threadOf(impl.Stmt{Kind: impl.StLet, A: 1, B: -1, C: 0}), threadOf(skipOver(0, 1), fence[0])), noughts},
		{"with strong stores", programOf(threadOf(strong(storeOf(0)), loadInto(0, 1)), threadOf(strong(storeOf(1)), loadInto(0, 0))), nil},
		{"with one strong store", programOf(threadOf(strong(storeOf(0)), loadInto(0, 1)), threadOf(storeOf(1), loadInto(0, 0))), noughts},
		{"with strong loads", programOf(threadOf(storeOf(0), strong(loadInto(0, 1))), threadOf(storeOf(1), strong(loadInto(0, 0)))), nil},
		{"each loads its own store, too", ownLoads(), []impl.Outcome{{Regs: []int{0, 1, 0, 0, 1, 0}, Mem: []int{1, 1, 0}, Done: both}}},
		{"stores in order, and loads the other way round", passedOn(), nil},
		{"a store that is seen by others", seenByOthers(), nil},
		{"two stores in one buffer", twoInBuffer(), []impl.Outcome{
			{Regs: []int{0, 0, 0, 0, 0, 0}, Mem: []int{2, 1, 0}, Done: both},
			{Regs: []int{0, 0, 0, 1, 0, 0}, Mem: []int{2, 1, 0}, Done: both},
		}},
		{"a store that another one overwrites", overwritten(), nil},
		{"loads ahead of stores", programOf(threadOf(loadInto(0, 0), storeOf(1)), threadOf(loadInto(0, 1), storeOf(0))), nil},
		{"a store ahead of what waits for ever", programOf(threadOf(storeOf(0), unlockOf(0)), threadOf(loadOf(0))), nil},
		{"stores, and loads of the other one's that tell whether to wait for ever", programOf(threadOf(storeOf(0), loadInto(0, 1), skipOver(0, 1), getFrom(0)), threadOf(storeOf(1), loadInto(0, 0), skipOver(0, 1), getFrom(0))), noughts},
		{"under locks", programOf(threadOf(lockOf(0), storeOf(0), loadInto(0, 1), unlockOf(0)), threadOf(lockOf(0), storeOf(1), loadInto(0, 0), unlockOf(0))), nil},
		{"under two locks", programOf(threadOf(lockOf(0), storeOf(0), loadInto(0, 1), unlockOf(0)), threadOf(lockOf(1), storeOf(1), loadInto(0, 0), unlockOf(1))), noughts},
	}
	for _, c := range cases {
		list, orders := impl.BufOutcomes(c.p), impl.Outcomes(c.p)
		if more := moreThan(list, orders); !sameOutcomes(more, c.more) || len(list) != len(orders)+len(more) {
			t.Errorf("%s: BufOutcomes = %v, and more than Outcomes %v, want %v", c.name, list, more, c.more)
		}
	}
}

func TestBufCountExamples(t *testing.T) {
	six := threadOf(storeTo(0, 1), storeTo(1, 2), storeTo(2, 3), storeTo(0, 2), storeTo(1, 1), storeTo(2, 1))
	cases := []struct {
		name     string
		p        impl.Program
		states   int
		outcomes []impl.Outcome
	}{
		{"a thread without statements", programOf(nil), 1, []impl.Outcome{{Regs: make([]int, 3), Mem: make([]int, 3), Done: []bool{true}}}},
		{"threads without statements", programOf(nil, nil, nil), 1, []impl.Outcome{{Regs: make([]int, 9), Mem: make([]int, 3), Done: []bool{true, true, true}}}},
		{"a store", programOf(storeAt(0)), 3, []impl.Outcome{{Regs: make([]int, 3), Mem: []int{1, 0, 0}, Done: []bool{true}}}},
		{"a store of what the place has", programOf(threadOf(storeTo(0, 0))), 3, []impl.Outcome{{Regs: make([]int, 3), Mem: []int{0, 0, 0}, Done: []bool{true}}}},
		{"a strong store", programOf(threadOf(strong(storeOf(0)))), 2, []impl.Outcome{{Regs: make([]int, 3), Mem: []int{1, 0, 0}, Done: []bool{true}}}},
		{"six stores", programOf(six), 28, []impl.Outcome{{Regs: make([]int, 3), Mem: []int{2, 1, 1}, Done: []bool{true}}}},
		{"a store of each of two threads", programOf(storeAt(0), storeAt(1)), 9, []impl.Outcome{{Regs: make([]int, 6), Mem: []int{1, 1, 0}, Done: []bool{true, true}}}},
		{"a store and a fence", programOf(threadOf(storeOf(0), fences(1)[0])), 4, []impl.Outcome{{Regs: make([]int, 3), Mem: []int{1, 0, 0}, Done: []bool{true}}}},
		{"a store and what waits for ever", programOf(threadOf(storeOf(2), unlockOf(0))), 3, []impl.Outcome{{Regs: make([]int, 3), Mem: []int{0, 0, 1}, Done: []bool{false}}}},
		{"a store and a load of it", programOf(threadOf(storeOf(1), loadInto(2, 1))), 5, []impl.Outcome{{Regs: []int{0, 0, 1}, Mem: []int{0, 1, 0}, Done: []bool{true}}}},
		{"two stores of two threads at one place", programOf(storeAt(0), threadOf(storeTo(0, 2))), 10, []impl.Outcome{
			{Regs: make([]int, 6), Mem: []int{1, 0, 0}, Done: []bool{true, true}},
			{Regs: make([]int, 6), Mem: []int{2, 0, 0}, Done: []bool{true, true}},
		}},
	}
	for _, c := range cases {
		if count := impl.BufCount(c.p); count != c.states {
			t.Errorf("%s: BufCount = %d, want %d", c.name, count, c.states)
		}
		if list := impl.BufOutcomes(c.p); !sameOutcomes(list, c.outcomes) {
			t.Errorf("%s: BufOutcomes = %v, want %v", c.name, list, c.outcomes)
		}
	}
}

// roomyStores returns a program of three threads whose statements lie in one array with room behind, and all of that array.
func roomyStores() (impl.Program, []impl.Stmt) {
	array := threadOf(
		storeTo(0, 1), loadInto(1, 1), fences(1)[0], fences(1)[0],
		storeTo(1, 2), loadInto(1, 0), fences(1)[0],
		storeTo(2, 3), addOf(1), loadInto(0, 0), fences(1)[0],
	)
	threads := make([][]impl.Stmt, 0, 5)
	threads = append(threads, array[0:3], array[4:6], array[7:10])
	return impl.Program{Threads: threads}, array
}

// roomyBufs returns buffers of three threads that lie in one array with room between, and that array.
func roomyBufs() ([][]int, []int) {
	array := []int{0, 2, 1, 3, 7, 7, 2, 1, 7, 7, 1, 0, 1, 2, 7, 7}
	bufs := make([][]int, 0, 6)
	return append(bufs, array[0:4], array[6:8], array[10:14]), array
}

// checkRoomyStores fails the test if a roomy program, roomy buffers, or their arrays, are not as they were.
func checkRoomyStores(t *testing.T, name string, p impl.Program, stmts []impl.Stmt, bufs [][]int, numbers []int) {
	t.Helper()
	freshProgram, freshStmts := roomyStores()
	checkRoomy(t, name, p, stmts, freshProgram, freshStmts)
	freshBufs, freshNumbers := roomyBufs()
	if !sameOrderLists(bufs, freshBufs) || !sameNumbers(numbers, freshNumbers) {
		t.Errorf("%s has changed buffers: %v, %v", name, bufs, numbers)
	}
	for _, buf := range bufs[:6][3:] {
		if buf != nil {
			t.Errorf("%s has written behind its buffers", name)
		}
	}
}

// spoilBuffered writes into all lists of a state, up to where their room ends, and into the list of its buffers.
func spoilBuffered(t *testing.T, name string, s impl.Buffered) {
	t.Helper()
	checkOwnLists(t, name, append(stateLists(s.State), s.Bufs...))
	room := s.Bufs[:cap(s.Bufs)]
	for i := range room {
		room[i] = []int{99}
	}
}

func TestBufferedStatesAreNewMemory(t *testing.T) {
	p, stmts := roomyStores()
	bufs, numbers := roomyBufs()
	state, array := roomyState()
	s := impl.Buffered{State: state, Bufs: bufs}
	done := 0
	for step := -1; step <= 6; step++ {
		want, _ := impl.BufDo(p, copiedBuffered(s), step)
		next, ok := impl.BufDo(p, s, step)
		again, _ := impl.BufDo(p, s, step)
		if ok != impl.BufCan(p, s, step) || !sameBuffered(next, want) {
			t.Errorf("BufDo(%v, %d) = %v, want %v", s, step, next, want)
		}
		if ok {
			done++
		}
		spoilBuffered(t, "BufDo", next)
		if !sameBuffered(again, want) {
			t.Errorf("two states behind the step %d share memory: %v", step, again)
		}
		for place := -1; place <= 3; place++ {
			impl.BufReads(p, s, step, place)
		}
		impl.BufOk(p, s)
		checkState(t, "what is asked of a state with buffers, or writing to what it returned,", array)
		checkRoomyStores(t, "what is asked of a state with buffers, or writing to what it returned,", p, stmts, bufs, numbers)
	}
	// The threads that store can go on with any buffer, and the one that adds can not.
	if done != 5 {
		t.Errorf("%d steps can be done", done)
	}
}

func TestBufBeginAndBufPlayReturnNewMemory(t *testing.T) {
	p, stmts := roomyStores()
	bufs, numbers := roomyBufs()
	room := []int{0, 1, 2, 0, 1, 5, 2, 7, 7}
	for length := range 8 {
		steps := room[:length]
		begin, _ := impl.BufBegin(p)
		s, ok := impl.BufPlay(p, steps)
		firstBegin, first := copiedBuffered(begin), copiedBuffered(s)
		otherBegin, _ := impl.BufBegin(p)
		other, _ := impl.BufPlay(p, steps)
		spoilBuffered(t, "BufBegin", begin)
		spoilBuffered(t, "BufPlay", s)
		if !ok || !sameBuffered(otherBegin, firstBegin) || !sameBuffered(other, first) {
			t.Errorf("BufPlay(%v) = %v, or two answers share memory: %v, %v", steps, ok, otherBegin, other)
		}
		checkRoomyStores(t, "BufBegin or BufPlay", p, stmts, bufs, numbers)
		if !sameNumbers(room, []int{0, 1, 2, 0, 1, 5, 2, 7, 7}) {
			t.Errorf("BufPlay has changed its steps: %v", room)
		}
	}
}

func TestBufOutcomesReturnNewMemory(t *testing.T) {
	n := bufCounts{}
	fresh := append(bufExamples(), fewPrograms()...)
	for i, p := range append(bufExamples(), fewPrograms()...) {
		list, other := impl.BufOutcomes(p), impl.BufOutcomes(p)
		spoil(t, "BufOutcomes", list)
		if !sameOutcomes(other, bufWalkOf(p).outcomes.outcomes) {
			t.Errorf("two answers share memory: %v", other)
		}
		n.checkBuffers(t, p)
		if !sameProgram(p, fresh[i]) {
			t.Errorf("what is asked of buffers has changed %v", p)
		}
	}
	p, stmts := roomyStores()
	bufs, numbers := roomyBufs()
	spoil(t, "BufOutcomes", impl.BufOutcomes(p))
	n.checkBuffers(t, p)
	checkRoomyStores(t, "BufOutcomes or BufCount", p, stmts, bufs, numbers)
}
