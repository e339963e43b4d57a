package tests

import (
	"math"
	"testing"

	"loop.example/wholethreads/impl"
)

// The lists of a state, as stateLists returns them.
const (
	ofAt    = 0
	ofRegs  = 1
	ofMem   = 2
	ofOwner = 3
	ofChan  = 4
)

func stateLists(s impl.State) [][]int {
	return [][]int{s.At, s.Regs, s.Mem, s.Owner, s.Chan}
}

func stateFrom(lists [][]int) impl.State {
	return impl.State{At: lists[ofAt], Regs: lists[ofRegs], Mem: lists[ofMem], Owner: lists[ofOwner], Chan: lists[ofChan]}
}

// copied returns a state that shares no memory with another one, and has the same.
func copied(s impl.State) impl.State {
	lists := stateLists(s)
	for i := range lists {
		lists[i] = append([]int{}, lists[i]...)
	}
	return stateFrom(lists)
}

// change is another number in a list of a state.
type change struct {
	list int
	at   int
	to   int
}

// changed returns a copy of a state with changes.
func changed(s impl.State, changes []change) impl.State {
	s = copied(s)
	for _, c := range changes {
		stateLists(s)[c.list][c.at] = c.to
	}
	return s
}

// isNoState reports whether a state has nothing.
func isNoState(s impl.State) bool { return sameState(s, impl.State{}) }

// isNoOutcome reports whether an outcome has nothing.
func isNoOutcome(o impl.Outcome) bool { return sameOutcome(o, impl.Outcome{}) }

// noThreads returns numbers for which a program of so many threads has none.
func noThreads(count int) []int {
	return []int{-1, -2, count, count + 1, 64, -64, math.MaxInt, math.MinInt}
}

// fences returns so many fences, which do nothing.
func fences(count int) []impl.Stmt {
	list := []impl.Stmt{}
	for range count {
		list = append(list, impl.Stmt{Kind: impl.StFence})
	}
	return list
}

func TestBegin(t *testing.T) {
	cases := []struct {
		name string
		p    impl.Program
		want impl.State
	}{
		{"one thread without statements", programOf(nil), impl.State{At: []int{0}, Regs: []int{0, 0, 0}}},
		{"two threads", programOf(lets(2), nil), impl.State{At: []int{0, 0}, Regs: []int{0, 0, 0, 0, 0, 0}}},
		{"three threads", programOf(lets(1), lets(2), lets(3)), impl.State{At: []int{0, 0, 0}, Regs: []int{0, 0, 0, 0, 0, 0, 0, 0, 0}}},
	}
	for _, c := range cases {
		c.want.Mem = []int{0, 0, 0}
		c.want.Owner = []int{-1, -1}
		c.want.Chan = []int{-1, -1}
		s, ok := impl.Begin(c.p)
		if !ok || !sameState(s, c.want) || !impl.StateOk(c.p, s) {
			t.Errorf("%s: Begin = %v, %v", c.name, s, ok)
		}
	}
	for _, p := range noPrograms() {
		if s, ok := impl.Begin(p); ok || !isNoState(s) {
			t.Errorf("Begin(%v) = %v, %v", p, s, ok)
		}
	}
}

// spansOf returns for each list of a state of a program the first and the last number that each entry may be.
func spansOf(p impl.Program) [][]span {
	spans := make([][]span, 5)
	for _, stmts := range p.Threads {
		spans[ofAt] = append(spans[ofAt], span{0, len(stmts)})
		spans[ofRegs] = append(spans[ofRegs], span{0, 3}, span{0, 3}, span{0, 3})
	}
	who := span{-1, len(p.Threads) - 1}
	spans[ofMem] = []span{{0, 3}, {0, 3}, {0, 3}}
	spans[ofOwner] = []span{who, who}
	spans[ofChan] = []span{{-1, 3}, {-1, 3}}
	return spans
}

// threadedPrograms returns programs of one, two and three threads, some of which have no statements.
func threadedPrograms() []impl.Program {
	return []impl.Program{
		programOf(nil),
		programOf(lets(6)),
		programOf(lets(2), nil),
		programOf(nil, lets(1)),
		programOf(lets(3), nil, lets(6)),
		programOf(nil, nil, nil),
	}
}

func TestStateOkAtEachEntry(t *testing.T) {
	for _, p := range threadedPrograms() {
		begin, _ := impl.Begin(p)
		for list, spans := range spansOf(p) {
			for at, may := range spans {
				for _, n := range []int{math.MinInt, -64, -3, -2, -1, 0, 1, 2, 3, 4, 5, 6, 7, 8, 15, 16, 64, math.MaxInt} {
					s := changed(begin, []change{{list, at, n}})
					if impl.StateOk(p, s) != may.has(n) {
						t.Errorf("%d threads: StateOk with %d in the list %d at %d = %v", len(p.Threads), n, list, at, !may.has(n))
					}
				}
			}
		}
	}
}

func TestStateOkOfWhatNoInterleavingComesTo(t *testing.T) {
	p := programOf(fences(1), nil)
	for _, s := range []impl.State{
		{At: []int{0, 0}, Regs: []int{3, 3, 3, 3, 3, 3}, Mem: []int{3, 3, 3}, Owner: []int{1, 1}, Chan: []int{3, 3}},
		{At: []int{1, 0}, Regs: []int{0, 1, 2, 3, 0, 1}, Mem: []int{2, 3, 0}, Owner: []int{0, 1}, Chan: []int{0, -1}},
	} {
		if !impl.StateOk(p, s) {
			t.Errorf("StateOk(%v) = false", s)
		}
	}
}

// brokenStates returns what are no states of a program, but nearly its beginning.
func brokenStates(p impl.Program) []impl.State {
	begin, _ := impl.Begin(p)
	return brokenFrom(p, begin)
}

// brokenFrom returns what are no states of a program, but nearly one, for each list: a number just outside at each entry, too few numbers, and too many.
func brokenFrom(p impl.Program, s impl.State) []impl.State {
	list := []impl.State{{}}
	for i, spans := range spansOf(p) {
		for at, may := range spans {
			list = append(list, changed(s, []change{{i, at, may.low - 1}}), changed(s, []change{{i, at, may.high + 1}}))
		}
		shorter, longer, none := stateLists(copied(s)), stateLists(copied(s)), stateLists(copied(s))
		shorter[i] = shorter[i][1:]
		longer[i] = append(longer[i], 0)
		none[i] = nil
		list = append(list, stateFrom(shorter), stateFrom(longer), stateFrom(none))
	}
	return list
}

func TestWhatIsNoState(t *testing.T) {
	for _, p := range threadedPrograms() {
		for _, s := range brokenStates(p) {
			if impl.StateOk(p, s) {
				t.Errorf("StateOk(%v, %v) = true", p, s)
			}
			for thread := range p.Threads {
				if impl.Can(p, s, thread) {
					t.Errorf("Can(%v, %v, %d) = true", p, s, thread)
				}
				if next, ok := impl.Do(p, s, thread); ok || !isNoState(next) {
					t.Errorf("Do(%v, %v, %d) = %v, %v", p, s, thread, next, ok)
				}
			}
			if o, ok := impl.OutcomeOf(p, s); ok || !isNoOutcome(o) {
				t.Errorf("OutcomeOf(%v, %v) = %v, %v", p, s, o, ok)
			}
		}
	}
}

func TestStatesOfOtherPrograms(t *testing.T) {
	list := threadedPrograms()
	for i, p := range list {
		for k, q := range list {
			s, _ := impl.Begin(q)
			if impl.StateOk(p, s) != (len(p.Threads) == len(q.Threads)) {
				t.Errorf("StateOk of the program %d of the beginning of %d = %v", i, k, impl.StateOk(p, s))
			}
		}
	}
}

func TestWhatIsNoProgram(t *testing.T) {
	for _, p := range noPrograms() {
		for threads := range 5 {
			s := stateOf(plainBegin(), min(threads, 3))
			for len(s.At) < threads {
				s.At = append(s.At, 0)
				s.Regs = append(s.Regs, 0, 0, 0)
			}
			next, did := impl.Do(p, s, 0)
			o, has := impl.OutcomeOf(p, s)
			if impl.StateOk(p, s) || impl.Can(p, s, 0) || did || !isNoState(next) || has || !isNoOutcome(o) {
				t.Errorf("%v has a state, %v, behind which is %v, and the outcome %v", p, s, next, o)
			}
		}
		for _, order := range [][]int{nil, {}, {0}, {-1}} {
			if s, ok := impl.Play(p, order); ok || !isNoState(s) {
				t.Errorf("Play(%v, %v) = %v, %v", p, order, s, ok)
			}
		}
		if list := impl.Outcomes(p); len(list) != 0 {
			t.Errorf("Outcomes(%v) = %v", p, list)
		}
		if count := impl.CountStates(p); count != -1 {
			t.Errorf("CountStates(%v) = %d", p, count)
		}
	}
}

// filled returns a state of two threads, the first of which has the registers 1, 2 and 3; the second has the lock 1, and the channel 1 has 2.
func filled() impl.State {
	return impl.State{At: []int{0, 0}, Regs: []int{1, 2, 3, 3, 0, 1}, Mem: []int{3, 2, 1}, Owner: []int{-1, 1}, Chan: []int{-1, 2}}
}

func TestEachKindDone(t *testing.T) {
	cases := []struct {
		name string
		s    impl.Stmt
		want []change
	}{
		{"a let of a value", impl.Stmt{Kind: impl.StLet, A: 1, B: -1, C: 3}, []change{{ofRegs, 1, 3}}},
		{"a let of nought", impl.Stmt{Kind: impl.StLet, A: 2, B: -1, C: 0}, []change{{ofRegs, 2, 0}}},
		{"a let of a sum", impl.Stmt{Kind: impl.StLet, A: 2, B: 0, C: 1}, []change{{ofRegs, 2, 2}}},
		{"a let of a sum past the values", impl.Stmt{Kind: impl.StLet, A: 0, B: 2, C: 3}, []change{{ofRegs, 0, 2}}},
		{"a let of a sum of itself", impl.Stmt{Kind: impl.StLet, A: 2, B: 2, C: 1}, []change{{ofRegs, 2, 0}}},
		{"a let of a register alone", impl.Stmt{Kind: impl.StLet, A: 0, B: 1, C: 0}, []change{{ofRegs, 0, 2}}},
		{"a load", impl.Stmt{Kind: impl.StLoad, A: 0, B: 1}, []change{{ofRegs, 0, 2}}},
		{"a strong load", impl.Stmt{Kind: impl.StLoad, A: 1, B: 0, Strong: true}, []change{{ofRegs, 1, 3}}},
		{"a store of a value", impl.Stmt{Kind: impl.StStore, A: 1, B: -1, C: 3}, []change{{ofMem, 1, 3}}},
		{"a store of a sum", impl.Stmt{Kind: impl.StStore, A: 2, B: 1, C: 1}, []change{{ofMem, 2, 3}}},
		{"a strong store of a sum past the values", impl.Stmt{Kind: impl.StStore, A: 0, B: 2, C: 2, Strong: true}, []change{{ofMem, 0, 1}}},
		{"a swap", impl.Stmt{Kind: impl.StSwap, A: 0, B: 0, C: 2}, []change{{ofRegs, 0, 3}, {ofMem, 0, 2}}},
		{"an add", impl.Stmt{Kind: impl.StAdd, A: 1, B: 2, C: 2}, []change{{ofRegs, 1, 1}, {ofMem, 2, 3}}},
		{"an add past the values", impl.Stmt{Kind: impl.StAdd, A: 0, B: 0, C: 3}, []change{{ofRegs, 0, 3}, {ofMem, 0, 2}}},
		{"a fence", impl.Stmt{Kind: impl.StFence}, nil},
		{"a lock", impl.Stmt{Kind: impl.StLock, A: 0}, []change{{ofOwner, 0, 0}}},
		{"a send of a value", impl.Stmt{Kind: impl.StSend, A: 0, B: -1, C: 0}, []change{{ofChan, 0, 0}}},
		{"a send of a sum", impl.Stmt{Kind: impl.StSend, A: 0, B: 1, C: 1}, []change{{ofChan, 0, 3}}},
		{"a send of a sum past the values", impl.Stmt{Kind: impl.StSend, A: 0, B: 2, C: 2}, []change{{ofChan, 0, 1}}},
		{"a get", impl.Stmt{Kind: impl.StGet, A: 0, B: 1}, []change{{ofRegs, 0, 2}, {ofChan, 1, -1}}},
		{"a skip with a register that is not 0", impl.Stmt{Kind: impl.StSkip, A: 0, B: 1}, nil},
	}
	for _, c := range cases {
		p := programOf(append([]impl.Stmt{c.s}, fences(2)...), fences(1))
		want := changed(changed(filled(), c.want), []change{{ofAt, 0, 1}})
		got, ok := impl.Do(p, filled(), 0)
		if !ok || !sameState(got, want) || !impl.Can(p, filled(), 0) {
			t.Errorf("%s: Do = %v, %v, want %v", c.name, got, ok, want)
		}
	}
}

func TestEachKindDoneByTheLastThread(t *testing.T) {
	begin := impl.State{At: []int{2, 0, 1}, Regs: []int{1, 1, 1, 2, 2, 2, 3, 0, 1}, Mem: []int{1, 2, 3}, Owner: []int{2, -1}, Chan: []int{3, -1}}
	cases := []struct {
		name string
		s    impl.Stmt
		want []change
	}{
		{"a let", impl.Stmt{Kind: impl.StLet, A: 1, B: 0, C: 2}, []change{{ofRegs, 7, 1}}},
		{"a load", impl.Stmt{Kind: impl.StLoad, A: 0, B: 1}, []change{{ofRegs, 6, 2}}},
		{"a store", impl.Stmt{Kind: impl.StStore, A: 2, B: 2, C: 1}, []change{{ofMem, 2, 2}}},
		{"a swap", impl.Stmt{Kind: impl.StSwap, A: 2, B: 2, C: 0}, []change{{ofRegs, 8, 3}, {ofMem, 2, 0}}},
		{"an add", impl.Stmt{Kind: impl.StAdd, A: 2, B: 2, C: 1}, []change{{ofRegs, 8, 3}, {ofMem, 2, 0}}},
		{"a fence", impl.Stmt{Kind: impl.StFence}, nil},
		{"a lock", impl.Stmt{Kind: impl.StLock, A: 1}, []change{{ofOwner, 1, 2}}},
		{"an unlock", impl.Stmt{Kind: impl.StUnlock, A: 0}, []change{{ofOwner, 0, -1}}},
		{"a send", impl.Stmt{Kind: impl.StSend, A: 1, B: 0, C: 0}, []change{{ofChan, 1, 3}}},
		{"a get", impl.Stmt{Kind: impl.StGet, A: 1, B: 0}, []change{{ofRegs, 7, 3}, {ofChan, 0, -1}}},
	}
	for _, c := range cases {
		p := programOf(lets(3), nil, append(fences(1), c.s))
		want := changed(changed(begin, c.want), []change{{ofAt, 2, 2}})
		got, ok := impl.Do(p, begin, 2)
		if !ok || !sameState(got, want) || !impl.Can(p, begin, 2) {
			t.Errorf("%s: Do = %v, %v, want %v", c.name, got, ok, want)
		}
	}
}

// sums returns a statement of each kind that has a sum: a let, a store, and a send.
func sums(r int, value int) []impl.Stmt {
	return []impl.Stmt{
		{Kind: impl.StLet, A: 0, B: r, C: value},
		{Kind: impl.StStore, A: 0, B: r, C: value},
		{Kind: impl.StSend, A: 0, B: r, C: value},
	}
}

func TestSums(t *testing.T) {
	for has := range 4 {
		begin := changed(filled(), []change{{ofRegs, 1, has}})
		for value := range 4 {
			for i, list := range []int{ofRegs, ofMem, ofChan} {
				plain, _ := impl.Do(programOf(sums(-1, value)[i:i+1], nil), begin, 0)
				added, _ := impl.Do(programOf(sums(1, value)[i:i+1], nil), begin, 0)
				if isNoState(plain) || stateLists(plain)[list][0] != value {
					t.Errorf("%v = %v", sums(-1, value)[i], plain)
				}
				if isNoState(added) || stateLists(added)[list][0] != (has+value)%4 {
					t.Errorf("%v of a register that has %d = %v", sums(1, value)[i], has, added)
				}
			}
		}
	}
}

func TestWaiting(t *testing.T) {
	lock, unlock := impl.Stmt{Kind: impl.StLock, A: 1}, impl.Stmt{Kind: impl.StUnlock, A: 1}
	send, get := impl.Stmt{Kind: impl.StSend, A: 1, B: -1, C: 2}, impl.Stmt{Kind: impl.StGet, A: 0, B: 1}
	cases := []struct {
		name  string
		s     impl.Stmt
		owner int
		chans int
		want  bool
	}{
		{"a lock that nobody has", lock, -1, -1, true},
		{"a lock that the thread itself has", lock, 0, -1, false},
		{"a lock that another thread has", lock, 1, -1, false},
		{"unlocking what nobody has", unlock, -1, -1, false},
		{"unlocking what the thread itself has", unlock, 0, -1, true},
		{"unlocking what another thread has", unlock, 1, -1, false},
		{"a send to a channel that is empty", send, -1, -1, true},
		{"a send to a channel that has 0", send, -1, 0, false},
		{"a send to a channel that has what is sent", send, -1, 2, false},
		{"a send to a channel that has 3", send, -1, 3, false},
		{"a get from a channel that is empty", get, -1, -1, false},
		{"a get from a channel that has 0", get, -1, 0, true},
		{"a get from a channel that has 3", get, -1, 3, true},
	}
	for _, c := range cases {
		for _, other := range []int{-1, 0, 1} {
			p := programOf([]impl.Stmt{c.s}, []impl.Stmt{c.s})
			// Nothing hangs on what the other lock and the other channel have.
			begin := changed(filled(), []change{{ofOwner, 0, other}, {ofOwner, 1, c.owner}, {ofChan, 0, other}, {ofChan, 1, c.chans}})
			next, ok := impl.Do(p, begin, 0)
			if ok != c.want || impl.Can(p, begin, 0) != c.want || isNoState(next) == c.want {
				t.Errorf("%s: Can = %v, Do = %v, %v", c.name, impl.Can(p, begin, 0), next, ok)
			}
		}
	}
}

func TestSkip(t *testing.T) {
	cases := []struct {
		name   string
		length int
		at     int
		count  int
		has    int
		want   int
	}{
		{"over one", 4, 0, 1, 0, 2},
		{"over two", 4, 0, 2, 0, 3},
		{"to the end", 4, 0, 3, 0, 4},
		{"past the end", 4, 0, 4, 0, 4},
		{"far past the end", 4, 0, 6, 0, 4},
		{"over five", 6, 0, 5, 0, 6},
		{"at the end", 4, 3, 1, 0, 4},
		{"far past the end, at the end", 6, 5, 6, 0, 6},
		{"in a thread of its own", 1, 0, 6, 0, 1},
		{"over none with 1", 4, 0, 1, 1, 1},
		{"over none with 2", 4, 1, 2, 2, 2},
		{"over none with 3", 4, 0, 6, 3, 1},
		{"over none with 3 at the end", 4, 3, 6, 3, 4},
	}
	for _, c := range cases {
		for r := range 3 {
			stmts := fences(c.length)
			stmts[c.at] = impl.Stmt{Kind: impl.StSkip, A: r, B: c.count}
			for thread, p := range []impl.Program{programOf(stmts, fences(1)), programOf(fences(1), stmts)} {
				// The other registers are not 0 if this one is, and are 0 if it is not.
				begin := stateOf(plainBegin(), 2)
				for i := range begin.Regs {
					begin.Regs[i] = 1 - min(c.has, 1)
				}
				begin.Regs[3*thread+r] = c.has
				begin.At[thread] = c.at
				next, ok := impl.Do(p, begin, thread)
				if !ok || !impl.Can(p, begin, thread) || !sameState(next, changed(begin, []change{{ofAt, thread, c.want}})) {
					t.Errorf("a skip %s: Do(%v, %v, %d) = %v, %v", c.name, p, begin, thread, next, ok)
				}
			}
		}
	}
}

func TestThreadsThatAreDone(t *testing.T) {
	p := programOf(fences(1), nil, fences(1))
	begin, _ := impl.Begin(p)
	done := changed(begin, []change{{ofAt, 0, 1}, {ofAt, 2, 1}})
	for thread, want := range []bool{true, false, true} {
		if impl.Can(p, begin, thread) != want || impl.Can(p, done, thread) {
			t.Errorf("the thread %d can %v, and %v when done", thread, impl.Can(p, begin, thread), impl.Can(p, done, thread))
		}
		next, ok := impl.Do(p, begin, thread)
		if ok != want || isNoState(next) == want {
			t.Errorf("Do of the thread %d = %v, %v", thread, next, ok)
		}
		if next, ok := impl.Do(p, done, thread); ok || !isNoState(next) {
			t.Errorf("Do of the thread %d, which is done, = %v, %v", thread, next, ok)
		}
	}
}

func TestThreadsThatThereAreNot(t *testing.T) {
	for _, p := range []impl.Program{programOf(fences(6)), programOf(fences(6), fences(3)), programOf(fences(6), fences(2), fences(1))} {
		begin, _ := impl.Begin(p)
		for _, thread := range noThreads(len(p.Threads)) {
			for at := range 7 {
				s := changed(begin, []change{{ofAt, 0, at}, {ofRegs, 0, 3}, {ofRegs, 2, 3}, {ofMem, 0, 3}})
				next, ok := impl.Do(p, s, thread)
				if impl.Can(p, s, thread) || ok || !isNoState(next) {
					t.Errorf("Do(%v, %v, %d) = %v, %v", p, s, thread, next, ok)
				}
				if played, ok := impl.Play(p, append(make([]int, at), thread)); ok || !isNoState(played) {
					t.Errorf("%d statements of the first of %d threads, and one of %d: Play = %v", at, len(p.Threads), thread, played)
				}
			}
			if s, ok := impl.Play(p, []int{thread, 0}); ok || !isNoState(s) {
				t.Errorf("of %d threads: Play(%d, 0) = %v, %v", len(p.Threads), thread, s, ok)
			}
		}
	}
}

// handOver returns a program of two threads of which the first one stores under a lock, and sends; the second one gets, and loads under the lock.
func handOver() impl.Program {
	return programOf(
		[]impl.Stmt{{Kind: impl.StLock, A: 0}, {Kind: impl.StStore, A: 2, B: -1, C: 3}, {Kind: impl.StUnlock, A: 0}, {Kind: impl.StSend, A: 0, B: -1, C: 1}},
		[]impl.Stmt{{Kind: impl.StGet, A: 0, B: 0}, {Kind: impl.StLock, A: 0}, {Kind: impl.StLoad, A: 1, B: 2}, {Kind: impl.StUnlock, A: 0}},
	)
}

func TestPlay(t *testing.T) {
	none := []int{-1, -1}
	cases := []struct {
		order []int
		want  impl.State
		ok    bool
	}{
		{nil, impl.State{At: []int{0, 0}, Regs: make([]int, 6), Mem: []int{0, 0, 0}, Owner: none, Chan: none}, true},
		{[]int{0}, impl.State{At: []int{1, 0}, Regs: make([]int, 6), Mem: []int{0, 0, 0}, Owner: []int{0, -1}, Chan: none}, true},
		{[]int{0, 0}, impl.State{At: []int{2, 0}, Regs: make([]int, 6), Mem: []int{0, 0, 3}, Owner: []int{0, -1}, Chan: none}, true},
		{[]int{0, 0, 0, 0}, impl.State{At: []int{4, 0}, Regs: make([]int, 6), Mem: []int{0, 0, 3}, Owner: none, Chan: []int{1, -1}}, true},
		{[]int{0, 0, 0, 0, 1, 1}, impl.State{At: []int{4, 2}, Regs: []int{0, 0, 0, 1, 0, 0}, Mem: []int{0, 0, 3}, Owner: []int{1, -1}, Chan: none}, true},
		{[]int{0, 0, 0, 0, 1, 1, 1, 1}, impl.State{At: []int{4, 4}, Regs: []int{0, 0, 0, 1, 3, 0}, Mem: []int{0, 0, 3}, Owner: none, Chan: none}, true},
		{[]int{1}, impl.State{}, false},
		{[]int{0, 0, 0, 1}, impl.State{}, false},
		{[]int{0, 0, 0, 0, 0}, impl.State{}, false},
		{[]int{0, 0, 0, 0, 1, 1, 1, 1, 1}, impl.State{}, false},
		{[]int{1, 0, 0, 0, 0}, impl.State{}, false},
		{make([]int, 1000), impl.State{}, false},
	}
	for _, c := range cases {
		s, ok := impl.Play(handOver(), c.order)
		if ok != c.ok || !sameState(s, c.want) {
			t.Errorf("Play(%v) = %v, %v", c.order, s, ok)
		}
	}
}

func TestPlayOfThreadsWithoutStatements(t *testing.T) {
	p := programOf(nil, fences(1), nil)
	for _, order := range [][]int{{0}, {2}, {1, 0}, {1, 2}, {0, 1}, {1, 1}} {
		if s, ok := impl.Play(p, order); ok || !isNoState(s) {
			t.Errorf("Play(%v) = %v, %v", order, s, ok)
		}
	}
	if s, ok := impl.Play(p, []int{1}); !ok || !sameNumbers(s.At, []int{0, 1, 0}) {
		t.Errorf("Play = %v, %v", s, ok)
	}
}

// someStates returns states of a program of two or three threads that differ in all that a statement may hang on.
func someStates(threads int) []impl.State {
	list := []impl.State{}
	for n := range 60 {
		plain := plainState{}
		for i := range 3 {
			plain.mem[i] = (n + i*i) % 4
			for r := range 3 {
				plain.regs[i][r] = (n + 5*i + 3*r) % 4
			}
		}
		for i := range 2 {
			plain.owner[i] = (n+i)%(threads+1) - 1
			plain.chans[i] = (n+2*i)%5 - 1
		}
		list = append(list, stateOf(plain, threads))
	}
	return list
}

func TestDoAgainstThePlainTelling(t *testing.T) {
	for _, st := range goodStmts() {
		programs := []impl.Program{programOf(append([]impl.Stmt{st}, fences(3)...), nil), programOf(nil, []impl.Stmt{st}), programOf(lets(1), fences(1), []impl.Stmt{st, st})}
		for thread, p := range programs {
			for _, s := range someStates(len(p.Threads)) {
				want, can := plainStep(p, plainOf(s), thread)
				next, ok := impl.Do(p, s, thread)
				if ok != can || impl.Can(p, s, thread) != can || ok && !sameState(next, stateOf(want, len(p.Threads))) || !ok && !isNoState(next) {
					t.Fatalf("Do(%v, %v, %d) = %v, %v, want %v, %v", p, s, thread, next, ok, want, can)
				}
			}
		}
	}
}

func TestOutcomeOf(t *testing.T) {
	p := programOf(fences(2), nil, fences(1))
	begin := impl.State{At: []int{1, 0, 1}, Regs: []int{0, 1, 2, 3, 0, 1, 2, 3, 1}, Mem: []int{3, 1, 2}, Owner: []int{-1, 2}, Chan: []int{3, -1}}
	cases := []struct {
		changes []change
		done    []bool
	}{
		{nil, []bool{false, true, true}},
		{[]change{{ofAt, 0, 0}}, []bool{false, true, true}},
		{[]change{{ofAt, 0, 2}}, []bool{true, true, true}},
		{[]change{{ofAt, 2, 0}}, []bool{false, true, false}},
		{[]change{{ofAt, 0, 2}, {ofAt, 2, 0}}, []bool{true, true, false}},
		{[]change{{ofOwner, 0, 1}, {ofChan, 0, -1}}, []bool{false, true, true}},
	}
	for _, c := range cases {
		s := changed(begin, c.changes)
		o, ok := impl.OutcomeOf(p, s)
		if !ok || !sameOutcome(o, impl.Outcome{Regs: begin.Regs, Mem: begin.Mem, Done: c.done}) {
			t.Errorf("OutcomeOf(%v) = %v, %v", s, o, ok)
		}
	}
}

// ranked returns outcomes, each of which stands ahead of the next one.
func ranked() []impl.Outcome {
	return []impl.Outcome{
		{},
		{Done: []bool{false}},
		{Done: []bool{false, false}},
		{Done: []bool{false, true}},
		{Done: []bool{true}},
		{Done: []bool{true, false}},
		{Done: []bool{true, true, false}},
		{Done: []bool{true, true, true}},
		{Mem: []int{math.MinInt}, Done: []bool{true}},
		{Mem: []int{-1}, Done: []bool{true}},
		{Mem: []int{0}},
		{Mem: []int{0}, Done: []bool{false}},
		{Mem: []int{0}, Done: []bool{true}},
		{Mem: []int{0, 0}},
		{Mem: []int{0, 3}},
		{Mem: []int{1}},
		{Mem: []int{1, 0, 0}},
		{Mem: []int{math.MaxInt}},
		{Regs: []int{math.MinInt, 5}, Mem: []int{9}},
		{Regs: []int{0}},
		{Regs: []int{0}, Done: []bool{false}},
		{Regs: []int{0}, Mem: []int{0, 1, 0}, Done: []bool{true}},
		{Regs: []int{0}, Mem: []int{0, 1, 1}, Done: []bool{false}},
		{Regs: []int{0, 1, 0}, Mem: []int{3, 3, 3}, Done: []bool{true}},
		{Regs: []int{0, 1, 1}, Mem: []int{0, 0, 0}, Done: []bool{false}},
		{Regs: []int{0, 2}},
		{Regs: []int{1}},
		{Regs: []int{1, 0}},
		{Regs: []int{math.MaxInt}},
	}
}

func TestOutcomeOrder(t *testing.T) {
	list := ranked()
	for i, a := range list {
		for k, b := range list {
			want := 0
			if i < k {
				want = -1
			}
			if i > k {
				want = 1
			}
			if got := impl.OutcomeOrder(a, b); got != want {
				t.Errorf("OutcomeOrder(%v, %v) = %d, want %d", a, b, got, want)
			}
		}
	}
	empty := impl.Outcome{Regs: []int{}, Mem: []int{}, Done: []bool{}}
	if impl.OutcomeOrder(empty, impl.Outcome{}) != 0 || impl.OutcomeOrder(impl.Outcome{}, empty) != 0 {
		t.Error("OutcomeOrder tells nil from empty")
	}
}

func TestOutcomesHave(t *testing.T) {
	list := ranked()
	for i, o := range list {
		if impl.OutcomesHave(nil, o) || impl.OutcomesHave([]impl.Outcome{}, o) {
			t.Errorf("no outcomes have %v", o)
		}
		if !impl.OutcomesHave(list, o) || !impl.OutcomesHave(list[i:], o) || !impl.OutcomesHave(list[:i+1], o) {
			t.Errorf("outcomes have not %v", o)
		}
		if impl.OutcomesHave(list[:i], o) || impl.OutcomesHave(list[i+1:], o) {
			t.Errorf("other outcomes have %v", o)
		}
	}
	empty := impl.Outcome{Regs: []int{}, Mem: []int{}, Done: []bool{}}
	if !impl.OutcomesHave(list, empty) || !impl.OutcomesHave([]impl.Outcome{empty}, impl.Outcome{}) {
		t.Error("OutcomesHave tells nil from empty")
	}
}

// storesAndLoads returns the document's example: two threads that each store 1 to a place of their own, and load the other one's.
func storesAndLoads() impl.Program {
	return programOf(
		[]impl.Stmt{{Kind: impl.StStore, A: 0, B: -1, C: 1}, {Kind: impl.StLoad, A: 0, B: 1}},
		[]impl.Stmt{{Kind: impl.StStore, A: 1, B: -1, C: 1}, {Kind: impl.StLoad, A: 0, B: 0}},
	)
}

// lostUpdate returns two threads that each add 1 to a place by a load and a store.
func lostUpdate() impl.Program {
	update := []impl.Stmt{{Kind: impl.StLoad, A: 0, B: 0}, {Kind: impl.StStore, A: 0, B: 0, C: 1}}
	return programOf(update, update)
}

// crossedLocks returns two threads that take two locks the other way round.
func crossedLocks() impl.Program {
	return programOf(
		[]impl.Stmt{{Kind: impl.StLock, A: 0}, {Kind: impl.StLock, A: 1}, {Kind: impl.StUnlock, A: 1}, {Kind: impl.StUnlock, A: 0}},
		[]impl.Stmt{{Kind: impl.StLock, A: 1}, {Kind: impl.StLock, A: 0}, {Kind: impl.StUnlock, A: 0}, {Kind: impl.StUnlock, A: 1}},
	)
}

// twoWays returns a program that comes to the same state by three statements and by four of them: a skip passes over a let that changes nothing then.
func twoWays() impl.Program {
	return programOf(
		[]impl.Stmt{{Kind: impl.StLoad, A: 0, B: 0}, {Kind: impl.StSkip, A: 0, B: 1}, {Kind: impl.StLet, A: 0, B: -1, C: 0}},
		[]impl.Stmt{{Kind: impl.StStore, A: 0, B: -1, C: 1}},
	)
}

func TestOutcomesExamples(t *testing.T) {
	nought, both := []int{0, 0, 0}, []bool{true, true}
	add := []impl.Stmt{{Kind: impl.StAdd, A: 0, B: 0, C: 1}}
	lock := []impl.Stmt{{Kind: impl.StLock, A: 0}, {Kind: impl.StLock, A: 0}}
	sends := []impl.Stmt{{Kind: impl.StSend, A: 0, B: -1, C: 1}, {Kind: impl.StSend, A: 0, B: -1, C: 2}}
	gets := []impl.Stmt{{Kind: impl.StGet, A: 0, B: 0}, {Kind: impl.StGet, A: 1, B: 0}}
	cases := []struct {
		name   string
		p      impl.Program
		want   []impl.Outcome
		states int
	}{
		{"each stores, and loads the other one's", storesAndLoads(), []impl.Outcome{
			{Regs: []int{0, 0, 0, 1, 0, 0}, Mem: []int{1, 1, 0}, Done: both},
			{Regs: []int{1, 0, 0, 0, 0, 0}, Mem: []int{1, 1, 0}, Done: both},
			{Regs: []int{1, 0, 0, 1, 0, 0}, Mem: []int{1, 1, 0}, Done: both},
		}, 13},
		{"an update that may be lost", lostUpdate(), []impl.Outcome{
			{Regs: make([]int, 6), Mem: []int{1, 0, 0}, Done: both},
			{Regs: []int{0, 0, 0, 1, 0, 0}, Mem: []int{2, 0, 0}, Done: both},
			{Regs: []int{1, 0, 0, 0, 0, 0}, Mem: []int{2, 0, 0}, Done: both},
		}, 13},
		{"an update at once", programOf(add, add), []impl.Outcome{
			{Regs: []int{0, 0, 0, 1, 0, 0}, Mem: []int{2, 0, 0}, Done: both},
			{Regs: []int{1, 0, 0, 0, 0, 0}, Mem: []int{2, 0, 0}, Done: both},
		}, 5},
		{"locks that may be stuck", crossedLocks(), []impl.Outcome{
			{Regs: make([]int, 6), Mem: nought, Done: []bool{false, false}},
			{Regs: make([]int, 6), Mem: nought, Done: both},
		}, 19},
		{"a lock that the thread has", programOf(lock), []impl.Outcome{{Regs: nought, Mem: nought, Done: []bool{false}}}, 2},
		{"a lock that nobody lets free", programOf(lock[:1], lock[:1]), []impl.Outcome{
			{Regs: make([]int, 6), Mem: nought, Done: []bool{false, true}},
			{Regs: make([]int, 6), Mem: nought, Done: []bool{true, false}},
		}, 3},
		{"unlocking what nobody has", programOf([]impl.Stmt{{Kind: impl.StUnlock}}), []impl.Outcome{{Regs: nought, Mem: nought, Done: []bool{false}}}, 1},
		{"sends and gets", programOf(sends, gets), []impl.Outcome{{Regs: []int{0, 0, 0, 1, 2, 0}, Mem: nought, Done: both}}, 5},
		{"sends that nobody gets", programOf(sends, nil), []impl.Outcome{{Regs: make([]int, 6), Mem: nought, Done: []bool{false, true}}}, 2},
		{"gets that nobody sends", programOf(nil, gets), []impl.Outcome{{Regs: make([]int, 6), Mem: nought, Done: []bool{true, false}}}, 1},
		{"a state by two ways", twoWays(), []impl.Outcome{{Regs: make([]int, 6), Mem: []int{1, 0, 0}, Done: both}}, 8},
		{"a thread without statements", programOf(nil), []impl.Outcome{{Regs: nought, Mem: nought, Done: []bool{true}}}, 1},
		{"threads without statements", programOf(nil, nil, nil), []impl.Outcome{{Regs: make([]int, 9), Mem: nought, Done: []bool{true, true, true}}}, 1},
		{"a thread without statements beside others", programOf(fences(1), nil, fences(2)), []impl.Outcome{{Regs: make([]int, 9), Mem: nought, Done: []bool{true, true, true}}}, 6},
	}
	for _, c := range cases {
		if list := impl.Outcomes(c.p); !sameOutcomes(list, c.want) {
			t.Errorf("%s: Outcomes = %v, want %v", c.name, list, c.want)
		}
		if count := impl.CountStates(c.p); count != c.states {
			t.Errorf("%s: CountStates = %d, want %d", c.name, count, c.states)
		}
	}
}

// checkWalk fails the test if the program's outcomes and states are not those of all interleavings, played one by one.
func checkWalk(t *testing.T, p impl.Program) {
	t.Helper()
	w := walkOf(p)
	if list := impl.Outcomes(p); !sameOutcomes(list, w.outcomes) {
		t.Errorf("Outcomes(%v) = %v, want %v", p, list, w.outcomes)
	}
	if count := impl.CountStates(p); count != len(w.states) {
		t.Errorf("CountStates(%v) = %d, want %d", p, count, len(w.states))
	}
}

// busyStmts returns statements of all kinds at few places, so that they meddle with each other.
func busyStmts() []impl.Stmt {
	return []impl.Stmt{
		{Kind: impl.StLet, A: 0, B: 1, C: 3},
		{Kind: impl.StLoad, A: 1, B: 0},
		{Kind: impl.StStore, A: 0, B: 0, C: 1},
		{Kind: impl.StSwap, A: 0, B: 0, C: 2},
		{Kind: impl.StAdd, A: 0, B: 0, C: 3},
		{Kind: impl.StFence},
		{Kind: impl.StLock, A: 0},
		{Kind: impl.StUnlock, A: 0},
		{Kind: impl.StSend, A: 0, B: 0, C: 2},
		{Kind: impl.StGet, A: 1, B: 0},
		{Kind: impl.StSkip, A: 0, B: 1},
		{Kind: impl.StSkip, A: 1, B: 2},
		{Kind: impl.StStore, A: 1, B: 1, C: 0},
		{Kind: impl.StGet, A: 0, B: 1},
		{Kind: impl.StLock, A: 1},
		{Kind: impl.StLet, A: 1, B: -1, C: 0},
		{Kind: impl.StLoad, A: 0, B: 1},
		{Kind: impl.StSend, A: 1, B: 1, C: 1},
		{Kind: impl.StUnlock, A: 1},
	}
}

// shortThreads returns all threads of at most two of some statements.
func shortThreads(stmts []impl.Stmt) [][]impl.Stmt {
	list := [][]impl.Stmt{{}}
	for _, a := range stmts {
		list = append(list, []impl.Stmt{a})
		for _, b := range stmts {
			list = append(list, []impl.Stmt{a, b})
		}
	}
	return list
}

func TestOutcomesOfAllPairsOfShortThreads(t *testing.T) {
	threads := shortThreads(busyStmts()[:12])
	for _, a := range threads {
		for _, b := range threads {
			checkWalk(t, programOf(a, b))
		}
	}
}

// freeStmts returns those of the busy statements that never wait, so that programs of them have many interleavings.
func freeStmts() []impl.Stmt {
	list := []impl.Stmt{}
	for _, s := range busyStmts() {
		if s.Kind <= 5 || s.Kind == 10 {
			list = append(list, s)
		}
	}
	return list
}

// mixedProgram returns a program with threads of such lengths, and a number from which the next one goes on: its statements are drawn by multiplying and adding.
func mixedProgram(stmts []impl.Stmt, lengths []int, seed uint32) (impl.Program, uint32) {
	p := impl.Program{}
	for _, length := range lengths {
		list := []impl.Stmt{}
		for range length {
			seed = seed*1664525 + 1013904223
			list = append(list, stmts[int(seed>>8)%len(stmts)])
		}
		p.Threads = append(p.Threads, list)
	}
	return p, seed
}

func TestOutcomesOfMixedPrograms(t *testing.T) {
	seed := uint32(1)
	for _, c := range []struct {
		lengths []int
		busy    int
		free    int
	}{
		{[]int{6}, 200, 200},
		{[]int{3, 3}, 400, 200},
		{[]int{6, 3}, 200, 50},
		{[]int{4, 5}, 200, 50},
		{[]int{1, 2, 1}, 400, 200},
		{[]int{2, 0, 3}, 200, 200},
		{[]int{2, 2, 2}, 400, 100},
		{[]int{3, 3, 3}, 200, 10},
		{[]int{1, 6, 2}, 100, 20},
	} {
		p := impl.Program{}
		for range c.busy {
			p, seed = mixedProgram(busyStmts(), c.lengths, seed)
			checkWalk(t, p)
		}
		for range c.free {
			p, seed = mixedProgram(freeStmts(), c.lengths, seed)
			checkWalk(t, p)
		}
	}
}

func TestOutcomesOfTheLargestProgram(t *testing.T) {
	adds := [][]impl.Stmt{}
	for thread := range 3 {
		adds = append(adds, []impl.Stmt{{Kind: impl.StAdd, A: 0, B: 0, C: 1}, {Kind: impl.StAdd, A: 1, B: 1, C: thread + 1}, {Kind: impl.StAdd, A: 2, B: 2, C: thread}})
	}
	checkWalk(t, programOf(adds...))
}

// ordersUpTo returns all lists of at most so many numbers from -1 to the number of threads.
func ordersUpTo(length int, threads int) [][]int {
	list := [][]int{{}}
	from := 0
	for range length {
		behind := len(list)
		for _, order := range list[from:behind] {
			for thread := -1; thread <= threads; thread++ {
				list = append(list, append(append([]int{}, order...), thread))
			}
		}
		from = behind
	}
	return list
}

func TestPlayOfAllOrders(t *testing.T) {
	for _, p := range []impl.Program{storesAndLoads(), lostUpdate(), crossedLocks(), handOver(), twoWays(), programOf(lets(1), nil, lets(2))} {
		for _, order := range ordersUpTo(5, len(p.Threads)) {
			plain, ok := plainBegin(), true
			for _, thread := range order {
				ok = ok && thread >= 0 && thread < len(p.Threads)
				if ok {
					plain, ok = plainStep(p, plain, thread)
				}
			}
			s, played := impl.Play(p, order)
			if played != ok || ok && !sameState(s, stateOf(plain, len(p.Threads))) || !ok && !isNoState(s) {
				t.Fatalf("Play(%v, %v) = %v, %v", p, order, s, played)
			}
		}
	}
}

// roomyState returns a state of three threads whose lists lie in one array with room between, and that array.
func roomyState() (impl.State, []int) {
	array := make([]int, 40)
	for i := range array {
		array[i] = 7
	}
	s := impl.State{At: array[0:3], Regs: array[5:14], Mem: array[16:19], Owner: array[21:23], Chan: array[25:27]}
	copy(s.At, []int{0, 0, 1})
	copy(s.Regs, []int{1, 2, 3, 0, 1, 2, 3, 0, 1})
	copy(s.Mem, []int{3, 2, 1})
	copy(s.Owner, []int{-1, 0})
	copy(s.Chan, []int{-1, 2})
	return s, array
}

// checkState fails the test if the array of a roomy state is not as it was.
func checkState(t *testing.T, name string, array []int) {
	t.Helper()
	if _, fresh := roomyState(); !sameNumbers(array, fresh) {
		t.Errorf("%s has changed a state: %v", name, array)
	}
}

// checkOwnLists writes into each list, up to where its room ends, and fails the test if another one changes.
func checkOwnLists(t *testing.T, name string, lists [][]int) {
	t.Helper()
	for i, list := range lists {
		before := [][]int{}
		for _, other := range lists {
			before = append(before, append([]int{}, other...))
		}
		room := list[:cap(list)]
		for at := range room {
			room[at] = 99
		}
		for k, other := range lists {
			if k != i && !sameNumbers(other, before[k]) {
				t.Errorf("%s: the lists %d and %d share memory", name, i, k)
			}
		}
	}
}

// spoil writes into all lists of outcomes, up to where their room ends, and into the list of them.
func spoil(t *testing.T, name string, outcomes []impl.Outcome) {
	t.Helper()
	lists := [][]int{}
	for i, o := range outcomes {
		lists = append(lists, o.Regs, o.Mem)
		room := o.Done[:cap(o.Done)]
		for k, other := range outcomes {
			before := append([]bool{}, other.Done...)
			for at := range room {
				room[at] = !room[at]
			}
			if k != i && !sameFlags(before, other.Done) {
				t.Errorf("%s: what is done of %d and %d shares memory", name, i, k)
			}
		}
	}
	checkOwnLists(t, name, lists)
	room := outcomes[:cap(outcomes)]
	for i := range room {
		room[i] = impl.Outcome{Regs: []int{99}}
	}
}

func TestDoReturnsNewMemory(t *testing.T) {
	for _, st := range goodStmts() {
		p := programOf([]impl.Stmt{st}, nil, fences(1))
		s, array := roomyState()
		next, ok := impl.Do(p, s, 0)
		again, _ := impl.Do(p, s, 0)
		impl.Can(p, s, 0)
		impl.StateOk(p, s)
		checkState(t, "Do", array)
		if !ok {
			continue
		}
		want := copied(again)
		checkOwnLists(t, "Do", stateLists(next))
		checkState(t, "writing to what Do returned", array)
		if !sameState(again, want) {
			t.Errorf("two states behind %v share memory", st)
		}
		if p.Threads[0][0] != st || len(p.Threads) != 3 {
			t.Errorf("Do has changed its program: %v", p)
		}
	}
}

func TestBeginAndPlayReturnNewMemory(t *testing.T) {
	p, array := roomyProgram()
	orders := []int{0, 2, 0, 2, 7, 7, 7}
	order := orders[:4]
	begin, _ := impl.Begin(p)
	played, ok := impl.Play(p, order)
	first, other := copied(begin), copied(played)
	if !ok || len(order) != 4 {
		t.Fatalf("Play = %v, %v", played, ok)
	}
	spoiltBegin, _ := impl.Begin(p)
	spoiltPlay, _ := impl.Play(p, order)
	checkOwnLists(t, "Begin", stateLists(spoiltBegin))
	checkOwnLists(t, "Play", stateLists(spoiltPlay))
	checkArgument(t, "Begin or Play", p, array)
	s, _ := roomyState()
	next, ok := impl.Do(p, s, 0)
	if !ok || !impl.Can(p, s, 2) || !impl.StateOk(p, s) {
		t.Errorf("Do(%v, %v, 0) = %v, %v", p, s, next, ok)
	}
	checkArgument(t, "Do, Can or StateOk", p, array)
	if !sameState(begin, first) || !sameState(played, other) {
		t.Errorf("two states share memory: %v, %v", begin, played)
	}
	if !sameNumbers(orders, []int{0, 2, 0, 2, 7, 7, 7}) {
		t.Errorf("Play has changed its order: %v", orders)
	}
}

func TestOutcomesReturnNewMemory(t *testing.T) {
	p, array := roomyProgram()
	s, numbers := roomyState()
	o, ok := impl.OutcomeOf(p, s)
	again, _ := impl.OutcomeOf(p, s)
	if !ok || !sameOutcome(o, again) {
		t.Fatalf("OutcomeOf = %v, %v, and then %v", o, ok, again)
	}
	spoil(t, "OutcomeOf", []impl.Outcome{o})
	checkState(t, "OutcomeOf", numbers)
	if !sameOutcome(again, impl.Outcome{Regs: s.Regs, Mem: s.Mem, Done: []bool{false, true, false}}) {
		t.Errorf("two outcomes of a state share memory: %v", again)
	}
	list, other := impl.Outcomes(p), impl.Outcomes(p)
	spoil(t, "Outcomes", list)
	impl.CountStates(p)
	checkArgument(t, "Outcomes or CountStates", p, array)
	if !sameOutcomes(other, walkOf(p).outcomes) {
		t.Errorf("two answers share memory: %v", other)
	}
}

func TestOutcomesOfOneAnswerShareNoMemory(t *testing.T) {
	for _, p := range []impl.Program{storesAndLoads(), lostUpdate(), crossedLocks()} {
		list, other := impl.Outcomes(p), impl.Outcomes(p)
		if len(list) < 2 {
			t.Fatalf("Outcomes(%v) = %v", p, list)
		}
		spoil(t, "Outcomes", list)
		if want := walkOf(p).outcomes; !sameOutcomes(other, want) || !sameOutcomes(impl.Outcomes(p), want) {
			t.Errorf("answers share memory: %v", other)
		}
	}
}

func TestComparingChangesNothing(t *testing.T) {
	list := ranked()
	for _, a := range list {
		for _, b := range list {
			impl.OutcomeOrder(a, b)
		}
		impl.OutcomesHave(list, a)
	}
	if !sameOutcomes(list, ranked()) {
		t.Errorf("OutcomeOrder or OutcomesHave has changed outcomes: %v", list)
	}
}
