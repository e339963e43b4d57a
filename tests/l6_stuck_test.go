package tests

import (
	"testing"

	"loop.example/wholethreads/impl"
)

// lockTwice returns a thread that takes a lock that it has.
func lockTwice(lock int) []impl.Stmt { return threadOf(lockOf(lock), lockOf(lock)) }

// lockBoth returns a thread that takes a lock, and then another one, and lets both free.
func lockBoth(first int, second int) []impl.Stmt {
	return threadOf(lockOf(first), lockOf(second), unlockOf(second), unlockOf(first))
}

// bystander returns two threads that take two locks the other way round, and one between them that takes one of them.
func bystander() impl.Program {
	return programOf(threadOf(lockOf(0), lockOf(1)), threadOf(lockOf(1), unlockOf(1)), threadOf(lockOf(1), lockOf(0)))
}

// lateLock returns a thread that takes the second lock while it has the first one, unless it passes over that, as it does till another thread has stored.
func lateLock() impl.Program {
	return programOf(threadOf(lockOf(0), loadOf(2), skipOver(0, 1), lockOf(1)), storeAt(2))
}

// behind returns the state behind an order.
func behind(p impl.Program, order ...int) impl.State {
	s, _ := impl.Play(p, order)
	return s
}

// beginWith returns the beginning of a program with changes.
func beginWith(p impl.Program, changes ...change) impl.State {
	s, _ := impl.Begin(p)
	return changed(s, changes)
}

// stuckCase is a state of a program, whether it is stuck there, who waits for whom, and who waits in a circle.
type stuckCase struct {
	name   string
	p      impl.Program
	s      impl.State
	stuck  bool
	waits  []int
	circle []int
}

// statesComeTo returns states to which their programs come.
func statesComeTo() []stuckCase {
	twoKeep := programOf(lockTwice(0), lockTwice(1))
	aside := programOf(lockTwice(1), fences(2))
	room := programOf(threadOf(sendTo(0), sendTo(0)), threadOf(getFrom(0)))
	mixed := programOf(threadOf(lockOf(0), getFrom(0)), threadOf(lockOf(0), sendTo(0)))
	never := programOf(nil, threadOf(getFrom(1)), nil)
	foreign := programOf(threadOf(lockOf(0)), threadOf(unlockOf(0)))
	nobody := programOf(threadOf(unlockOf(1)))
	over := programOf(threadOf(skipOver(0, 1), lockOf(0)), threadOf(lockOf(0), fences(1)[0]))
	apart := programOf(threadOf(getFrom(0)), threadOf(sendTo(1)))
	return []stuckCase{
		{"threads without statements", programOf(nil, nil, nil), behind(programOf(nil, nil, nil)), false, []int{-1, -1, -1}, nil},
		{"fences ahead", programOf(fences(1)), behind(programOf(fences(1))), false, []int{-1}, nil},
		{"two locks that nobody has", crossedLocks(), behind(crossedLocks()), false, []int{-1, -1}, nil},
		{"a lock that nobody has, behind one", crossedLocks(), behind(crossedLocks(), 0), false, []int{-1, -1}, nil},
		{"a lock that another one has", crossedLocks(), behind(crossedLocks(), 0, 0), false, []int{-1, 0}, nil},
		{"locks the other way round", crossedLocks(), behind(crossedLocks(), 0, 1), true, []int{1, 0}, []int{0, 1}},
		{"all done", crossedLocks(), behind(crossedLocks(), 0, 0, 0, 0, 1, 1, 1, 1), false, []int{-1, -1}, nil},
		{"a lock that the thread has", programOf(lockTwice(0)), behind(programOf(lockTwice(0)), 0), true, []int{0}, []int{0}},
		{"locks that both threads have themselves", twoKeep, behind(twoKeep, 0, 1), true, []int{0, 1}, []int{0, 1}},
		{"a lock that the thread has, beside one that can", aside, behind(aside, 0, 1), false, []int{0, -1}, []int{0}},
		{"a lock that the thread has, beside one that is done", aside, behind(aside, 0, 1, 1), true, []int{0, -1}, []int{0}},
		{"a lock that one that is done has", keptLocks(), behind(keptLocks(), 0, 0), true, []int{-1, 0}, nil},
		{"a lock that one that is done has, the other way round", keptLocks(), behind(keptLocks(), 1, 1), true, []int{1, -1}, nil},
		{"a lock that one that can has", keptLocks(), behind(keptLocks(), 1), false, []int{1, -1}, nil},
		{"a circle, and one that waits for it", bystander(), behind(bystander(), 0, 2), true, []int{2, 2, 0}, []int{0, 2}},
		{"no circle beside one that can", bystander(), behind(bystander(), 0, 1), false, []int{1, -1, 1}, nil},
		{"a channel to which nobody sends", never, behind(never), true, []int{-1, -1, -1}, nil},
		{"a channel to which somebody will send", programOf(threadOf(getFrom(0)), threadOf(sendTo(0))), behind(programOf(threadOf(getFrom(0)), threadOf(sendTo(0)))), false, []int{-1, -1}, nil},
		{"a channel that is full", room, behind(room, 0), false, []int{-1, -1}, nil},
		{"a channel from which nobody gets any more", programOf(threadOf(sendTo(0), sendTo(0))), behind(programOf(threadOf(sendTo(0), sendTo(0))), 0), true, []int{-1}, nil},
		{"a value that nobody gets", room, behind(room, 0, 1, 0), false, []int{-1, -1}, nil},
		{"a get that waits for one that waits for a lock", mixed, behind(mixed, 0), true, []int{-1, 0}, nil},
		{"a get that waits, beside one that can", mixed, behind(mixed), false, []int{-1, -1}, nil},
		{"an unlock of what nobody has", nobody, behind(nobody), true, []int{-1}, nil},
		{"an unlock of what another one has", foreign, behind(foreign, 0), true, []int{-1, -1}, nil},
		{"an unlock of what another one may still take", foreign, behind(foreign), false, []int{-1, -1}, nil},
		{"a lock that is passed over", over, behind(over, 1, 0), false, []int{-1, -1}, nil},
		{"a lock that another one has, behind a skip", over, behind(over, 1), false, []int{-1, -1}, nil},
		{"a send to what is empty, beside a get that waits", apart, behind(apart), false, []int{-1, -1}, nil},
		{"a send to another channel", apart, behind(apart, 1), true, []int{-1, -1}, nil},
	}
}

// statesElsewhere returns states to which their programs never come.
func statesElsewhere() []stuckCase {
	single := programOf(lockTwice(0), threadOf(lockOf(0)))
	three := programOf(threadOf(lockOf(0)), threadOf(lockOf(1)), threadOf(lockOf(0)))
	idle := programOf(nil, threadOf(lockOf(1)), nil)
	frees := programOf(threadOf(unlockOf(0)), threadOf(unlockOf(1)))
	gets := programOf(threadOf(getFrom(0)), threadOf(sendTo(1)))
	return []stuckCase{
		{"a lock that one has who has not yet taken it", single, beginWith(single, change{ofOwner, 0, 1}), true, []int{1, 1}, []int{1}},
		{"the other lock", single, beginWith(single, change{ofOwner, 1, 1}), false, []int{-1, -1}, nil},
		{"a circle from the beginning", crossedLocks(), beginWith(crossedLocks(), change{ofOwner, 0, 1}, change{ofOwner, 1, 0}), true, []int{1, 0}, []int{0, 1}},
		{"each thread its own lock", crossedLocks(), beginWith(crossedLocks(), change{ofOwner, 0, 0}, change{ofOwner, 1, 1}), true, []int{0, 1}, []int{0, 1}},
		{"one thread has both locks", crossedLocks(), beginWith(crossedLocks(), change{ofOwner, 0, 1}, change{ofOwner, 1, 1}), true, []int{1, 1}, []int{1}},
		{"one thread has both locks, and is done", crossedLocks(), beginWith(crossedLocks(), change{ofAt, 0, 4}, change{ofOwner, 0, 0}, change{ofOwner, 1, 0}), true, []int{-1, 0}, nil},
		{"done with locks", crossedLocks(), beginWith(crossedLocks(), change{ofAt, 0, 4}, change{ofAt, 1, 4}, change{ofOwner, 0, 1}, change{ofOwner, 1, 0}), false, []int{-1, -1}, nil},
		{"done with full channels", programOf(nil), beginWith(programOf(nil), change{ofChan, 0, 3}, change{ofChan, 1, 0}), false, []int{-1}, nil},
		{"a circle of the first two threads", three, beginWith(three, change{ofOwner, 0, 1}, change{ofOwner, 1, 0}), true, []int{1, 0, 1}, []int{0, 1}},
		{"a circle of the last two threads", three, beginWith(three, change{ofOwner, 0, 1}, change{ofOwner, 1, 2}), true, []int{1, 2, 1}, []int{1, 2}},
		{"the last thread for itself, and two on the way to it", three, beginWith(three, change{ofOwner, 0, 2}, change{ofOwner, 1, 2}), true, []int{2, 2, 2}, []int{2}},
		{"a way of two steps to one that waits for itself", three, beginWith(three, change{ofOwner, 0, 1}, change{ofOwner, 1, 1}), true, []int{1, 1, 1}, []int{1}},
		{"the first and the second thread for themselves", three, beginWith(three, change{ofOwner, 0, 0}, change{ofOwner, 1, 1}), true, []int{0, 1, 0}, []int{0, 1}},
		{"one that can beside two that wait for it", three, beginWith(three, change{ofOwner, 0, 1}), false, []int{1, -1, 1}, nil},
		{"a way that ends with one that is done", three, beginWith(three, change{ofAt, 2, 1}, change{ofOwner, 0, 1}, change{ofOwner, 1, 2}), true, []int{1, 2, -1}, nil},
		{"the last of two without statements has the lock", idle, beginWith(idle, change{ofOwner, 1, 2}), true, []int{-1, 2, -1}, nil},
		{"the first of two without statements has the lock", idle, beginWith(idle, change{ofOwner, 1, 0}), true, []int{-1, 0, -1}, nil},
		{"unlocks of each other's locks", frees, beginWith(frees, change{ofOwner, 0, 1}, change{ofOwner, 1, 0}), true, []int{-1, -1}, nil},
		{"an unlock of one's own lock, and one of another one's", frees, beginWith(frees, change{ofOwner, 0, 0}, change{ofOwner, 1, 0}), false, []int{-1, -1}, nil},
		{"a get from what is empty, and a send to what is full", gets, beginWith(gets, change{ofChan, 1, 0}), true, []int{-1, -1}, nil},
		{"a get of nought", gets, beginWith(gets, change{ofChan, 0, 0}, change{ofChan, 1, 0}), false, []int{-1, -1}, nil},
	}
}

// stuckCases returns states to which their programs come, and others.
func stuckCases() []stuckCase { return append(statesComeTo(), statesElsewhere()...) }

func TestStuckExamples(t *testing.T) {
	for _, c := range stuckCases() {
		if impl.Stuck(c.p, c.s) != c.stuck {
			t.Errorf("%s: Stuck = %v", c.name, !c.stuck)
		}
		if waits := impl.WaitsFor(c.p, c.s); !sameNumbers(waits, c.waits) {
			t.Errorf("%s: WaitsFor = %v, want %v", c.name, waits, c.waits)
		}
		if circle := impl.Circle(c.p, c.s); !sameNumbers(circle, c.circle) {
			t.Errorf("%s: Circle = %v, want %v", c.name, circle, c.circle)
		}
	}
}

// isComeTo reports whether a program comes to a state.
func isComeTo(p impl.Program, s impl.State) bool {
	for _, other := range walkOf(p).states {
		if sameState(stateOf(other, len(p.Threads)), s) {
			return true
		}
	}
	return false
}

// The examples are of both kinds, as they are called.
func TestStatesOfTheExamples(t *testing.T) {
	for _, c := range statesComeTo() {
		if !impl.StateOk(c.p, c.s) || !isComeTo(c.p, c.s) {
			t.Errorf("%s: no order comes to %v", c.name, c.s)
		}
	}
	for _, c := range statesElsewhere() {
		if !impl.StateOk(c.p, c.s) || isComeTo(c.p, c.s) {
			t.Errorf("%s: an order comes to %v, or it is no state", c.name, c.s)
		}
	}
}

// hasNumber reports whether a list has a number.
func hasNumber(list []int, n int) bool {
	for _, other := range list {
		if other == n {
			return true
		}
	}
	return false
}

// walkFrom returns the threads to which a walk from a thread comes, each once, up to one that waits for nobody.
func walkFrom(waits []int, thread int) []int {
	list := []int{}
	for at := waits[thread]; at != -1 && !hasNumber(list, at); at = waits[at] {
		list = append(list, at)
	}
	return list
}

// walkedCircle returns the threads to which a walk from themselves comes back.
func walkedCircle(waits []int) []int {
	list := []int{}
	for thread := range waits {
		if hasNumber(walkFrom(waits, thread), thread) {
			list = append(list, thread)
		}
	}
	return list
}

// waitCounts is how many states were stuck, and how many had circles of no thread, one, two and three threads.
type waitCounts struct {
	stuck   int
	circles [4]int
}

// checkWaiting fails the test if what is asked of a state is not what is plainly told, and counts it.
func (n *waitCounts) checkWaiting(t *testing.T, p impl.Program, s impl.State) {
	t.Helper()
	plain := plainOf(s)
	stuck := impl.Stuck(p, s)
	if stuck != plainStuck(p, plain) {
		t.Fatalf("Stuck(%v, %v) = %v", p, s, stuck)
	}
	want := plainWaits(p, plain)
	waits := impl.WaitsFor(p, s)
	if !sameNumbers(waits, want) {
		t.Fatalf("WaitsFor(%v, %v) = %v, want %v", p, s, waits, want)
	}
	circle := impl.Circle(p, s)
	if !sameNumbers(circle, walkedCircle(waits)) {
		t.Fatalf("Circle(%v, %v) = %v, want %v", p, s, circle, walkedCircle(waits))
	}
	if stuck {
		n.stuck++
	}
	n.circles[len(circle)]++
}

// withEach returns for each of some states copies with each number of a span at one entry.
func withEach(states []impl.State, list int, at int, may span) []impl.State {
	all := []impl.State{}
	for _, s := range states {
		for n := may.low; n <= may.high; n++ {
			all = append(all, changed(s, []change{{list, at, n}}))
		}
	}
	return all
}

// waitStates returns all states of a program, come to or not, but for what registers and places have, and which value a channel has.
func waitStates(p impl.Program) []impl.State {
	states := []impl.State{beginWith(p)}
	for thread, stmts := range p.Threads {
		states = withEach(states, ofAt, thread, span{0, len(stmts)})
	}
	for i := range 2 {
		states = withEach(states, ofOwner, i, span{-1, len(p.Threads) - 1})
		states = withEach(states, ofChan, i, span{-1, 0})
	}
	return states
}

// waitingThreads returns threads whose statements wait, and some that do not.
func waitingThreads() [][]impl.Stmt {
	return [][]impl.Stmt{
		nil, lockTwice(0), lockTwice(1), threadOf(lockOf(0), lockOf(1)), threadOf(lockOf(1), unlockOf(1)),
		threadOf(unlockOf(0), lockOf(0)), threadOf(lockOf(1), sendTo(0)), threadOf(getFrom(1), lockOf(0)),
		threadOf(skipOver(0, 1), lockOf(1)), threadOf(sendTo(1), storeOf(0)),
	}
}

func TestWaitingInAllStatesOfTwoThreads(t *testing.T) {
	n := waitCounts{}
	threads := append(waitingThreads(), shortThreads([]impl.Stmt{lockOf(0), lockOf(1), unlockOf(0), getFrom(0)})...)
	for _, a := range threads {
		for _, b := range threads {
			p := programOf(a, b)
			for _, s := range waitStates(p) {
				n.checkWaiting(t, p, s)
			}
		}
	}
	if n.stuck < 1000 || n.circles[0] < 1000 || n.circles[1] < 1000 || n.circles[2] < 1000 {
		t.Errorf("%d states are stuck, and circles are counted %v", n.stuck, n.circles)
	}
}

func TestWaitingInAllStatesOfThreeThreads(t *testing.T) {
	n := waitCounts{}
	for _, threads := range [][3]int{{1, 2, 3}, {3, 4, 1}, {3, 3, 3}, {1, 1, 1}, {6, 7, 3}, {5, 3, 4}, {8, 9, 2}, {0, 3, 4}, {3, 0, 2}, {1, 2, 0}} {
		p := impl.Program{}
		for _, i := range threads {
			p.Threads = append(p.Threads, waitingThreads()[i])
		}
		for _, s := range waitStates(p) {
			n.checkWaiting(t, p, s)
		}
	}
	// Whoever is in a circle has a lock, so there is none of more threads than there are locks.
	if n.stuck < 1000 || n.circles[0] < 1000 || n.circles[1] < 1000 || n.circles[2] < 500 || n.circles[3] != 0 {
		t.Errorf("%d states are stuck, and circles are counted %v", n.stuck, n.circles)
	}
}

func TestWaitingInStatesComeTo(t *testing.T) {
	n := waitCounts{}
	for _, p := range append(append(lockPrograms(), lockThreadPrograms()...), allPrograms()...) {
		for _, s := range walkOf(p).states {
			n.checkWaiting(t, p, stateOf(s, len(p.Threads)))
		}
	}
	if n.stuck < 500 || n.circles[1] < 100 || n.circles[2] < 100 {
		t.Errorf("%d states are stuck, and circles are counted %v", n.stuck, n.circles)
	}
}

// checkNoWaiting fails the test if there is an answer about what is no state of a program.
func checkNoWaiting(t *testing.T, p impl.Program, s impl.State) {
	t.Helper()
	waits, circle := impl.WaitsFor(p, s), impl.Circle(p, s)
	if impl.Stuck(p, s) || len(waits) != 0 || len(circle) != 0 {
		t.Errorf("of %v, %v: Stuck = %v, WaitsFor = %v, Circle = %v", p, s, impl.Stuck(p, s), waits, circle)
	}
}

func TestWaitingInWhatIsNoState(t *testing.T) {
	for _, c := range stuckCases() {
		for _, s := range brokenFrom(c.p, c.s) {
			checkNoWaiting(t, c.p, s)
		}
	}
	for _, p := range threadedPrograms() {
		for _, s := range brokenStates(p) {
			checkNoWaiting(t, p, s)
		}
	}
}

// lockedNoPrograms returns programs that are none, but whose statements take locks in order, wait for ever, or wait for themselves.
func lockedNoPrograms() []impl.Program {
	taken := threadOf(lockOf(0), unlockOf(0))
	ever := threadOf(getFrom(0))
	return []impl.Program{
		programOf(ever, ever, ever, ever),
		programOf(threadOf(lockOf(0), lockOf(0), lockOf(0), lockOf(0), lockOf(0), lockOf(0), lockOf(0))),
		programOf(append(lockTwice(0), fences(4)...), append(lockTwice(0), fences(2)...)),
		programOf(threadOf(lockOf(2), unlockOf(2))),
		programOf(threadOf(lockOf(-1), unlockOf(-1))),
		programOf(taken, threadOf(impl.Stmt{Kind: impl.StLock, A: 0, B: 1})),
		programOf(taken, threadOf(impl.Stmt{Kind: impl.StLock, A: 0, Strong: true})),
		programOf(threadOf(impl.Stmt{Kind: impl.StGet, A: 0, B: 2})),
		programOf(taken, taken, taken, taken),
		programOf(taken, threadOf(impl.Stmt{Kind: 11})),
		programOf(taken, threadOf(impl.Stmt{Kind: -1})),
	}
}

// beginAnyway returns what would be the beginning of threads, as many as there are.
func beginAnyway(p impl.Program) impl.State {
	threads := len(p.Threads)
	return impl.State{At: make([]int, threads), Regs: make([]int, 3*threads), Mem: make([]int, 3), Owner: []int{-1, -1}, Chan: []int{-1, -1}}
}

func TestStuckOfWhatIsNoProgram(t *testing.T) {
	for _, p := range append(noPrograms(), lockedNoPrograms()...) {
		for _, changes := range [][]change{nil, {{ofOwner, 0, 0}}, {{ofOwner, 0, 0}, {ofOwner, 1, 0}}, {{ofChan, 0, 1}}} {
			checkNoWaiting(t, p, changed(beginAnyway(p), changes))
		}
		checkNoWaiting(t, p, impl.State{})
		if order, ok := impl.StuckOrder(p); ok || len(order) != 0 {
			t.Errorf("StuckOrder(%v) = %v, %v", p, order, ok)
		}
		if pairs, ok := impl.LockPairs(p); ok || len(pairs) != 0 {
			t.Errorf("LockPairs(%v) = %v, %v", p, pairs, ok)
		}
		if impl.StuckFree(p) || impl.Ascending(p) {
			t.Errorf("of %v: StuckFree = %v, Ascending = %v", p, impl.StuckFree(p), impl.Ascending(p))
		}
	}
}

// waitPrograms returns the programs of the examples.
func waitPrograms() []impl.Program {
	list := []impl.Program{bystander(), lateLock()}
	for _, c := range stuckCases() {
		list = append(list, c.p)
	}
	return list
}

// lockPrograms returns programs of all that waiting for each other hangs on.
func lockPrograms() []impl.Program {
	list := waitPrograms()
	stmts := threadOf(lockOf(0), lockOf(0), lockOf(1), lockOf(1), unlockOf(0), unlockOf(0), unlockOf(1), sendTo(0), getFrom(0), loadOf(0), storeOf(0), skipOver(0, 1))
	seed := uint32(13)
	p := impl.Program{}
	for _, lengths := range [][]int{{5}, {2, 2}, {3, 3}, {4, 2}, {2, 2, 2}, {3, 1, 3}, {3, 3, 3}} {
		for range 150 {
			p, seed = mixedProgram(stmts, lengths, seed)
			list = append(list, p)
		}
	}
	return list
}

// lockThreads returns threads that take locks in all ways: in order or not, twice, without having them, and for ever.
func lockThreads() [][]impl.Stmt {
	return [][]impl.Stmt{
		nil, fences(1), threadOf(lockOf(0), unlockOf(0)), threadOf(lockOf(1), addOf(0), unlockOf(1)),
		lockBoth(0, 1), lockBoth(1, 0), threadOf(lockOf(0), lockOf(1), unlockOf(0), unlockOf(1)), threadOf(lockOf(1), lockOf(0), unlockOf(1), unlockOf(0)),
		threadOf(lockOf(0), unlockOf(0), lockOf(1), unlockOf(1)), threadOf(lockOf(1), unlockOf(1), lockOf(0), unlockOf(0)), threadOf(lockOf(0), unlockOf(0), lockOf(0), unlockOf(0)),
		threadOf(lockOf(0), lockOf(1), unlockOf(1), lockOf(1), unlockOf(1), unlockOf(0)), threadOf(lockOf(0), lockOf(1), unlockOf(0), lockOf(0)),
		threadOf(lockOf(1)), lockTwice(0), threadOf(unlockOf(0)), threadOf(lockOf(0), unlockOf(0), unlockOf(0)),
		threadOf(lockOf(0), sendTo(0), unlockOf(0)), threadOf(lockOf(0), getFrom(0), unlockOf(0)), threadOf(skipOver(0, 1), lockOf(0)),
	}
}

// fits reports whether threads are few enough statements for a program.
func fits(threads ...[]impl.Stmt) bool {
	total := 0
	for _, stmts := range threads {
		total += len(stmts)
	}
	return total <= 9
}

// lockThreadPrograms returns all programs of two and of three of these threads.
func lockThreadPrograms() []impl.Program {
	list := []impl.Program{}
	for _, a := range lockThreads() {
		for _, b := range lockThreads() {
			if fits(a, b) {
				list = append(list, programOf(a, b))
			}
			for _, c := range lockThreads() {
				if fits(a, b, c) {
					list = append(list, programOf(a, b, c))
				}
			}
		}
	}
	return list
}

// stuckCounts is how many programs there were, how many are never stuck, and how many take locks in order.
type stuckCounts struct {
	all       int
	free      int
	ascending int
}

// checkStuck fails the test if what is asked of a program's waiting is not what all whole orders tell, and counts it.
func (n *stuckCounts) checkStuck(t *testing.T, p impl.Program) {
	t.Helper()
	want, stuck := plainStuckOrder(p)
	order, ok := impl.StuckOrder(p)
	if ok != stuck || !sameNumbers(order, want) {
		t.Fatalf("StuckOrder(%v) = %v, %v, want %v, %v", p, order, ok, want, stuck)
	}
	free := impl.StuckFree(p)
	if free == ok {
		t.Fatalf("StuckFree(%v) = %v, and StuckOrder = %v, %v", p, free, order, ok)
	}
	if pairs, ok := impl.LockPairs(p); !ok || !sameRows(pairs, plainPairs(p)) {
		t.Fatalf("LockPairs(%v) = %v, %v, want %v", p, pairs, ok, plainPairs(p))
	}
	ascending := impl.Ascending(p)
	if ascending != plainAscending(p) {
		t.Fatalf("Ascending(%v) = %v", p, ascending)
	}
	if ascending && stuck {
		t.Fatalf("%v takes locks in order, and is stuck behind %v", p, want)
	}
	n.all++
	if free {
		n.free++
	}
	if ascending {
		n.ascending++
	}
}

// checkCounts fails the test if there were too few programs of some kind for it to tell much.
func (n *stuckCounts) checkCounts(t *testing.T, least int) {
	t.Helper()
	if n.ascending < least || n.free-n.ascending < least || n.all-n.free < least {
		t.Errorf("of %d programs, %d are never stuck, and %d take locks in order", n.all, n.free, n.ascending)
	}
}

func TestStuckAgainstAllOrders(t *testing.T) {
	n := stuckCounts{}
	for _, p := range append(lockPrograms(), allPrograms()...) {
		n.checkStuck(t, p)
	}
	n.checkCounts(t, 100)
}

func TestStuckOfAllPairsOfShortThreads(t *testing.T) {
	n := stuckCounts{}
	threads := shortThreads([]impl.Stmt{lockOf(0), lockOf(1), unlockOf(0), sendTo(0), getFrom(0), loadOf(0), skipOver(0, 1)})
	for _, a := range threads {
		for _, b := range threads {
			n.checkStuck(t, programOf(a, b))
			n.checkStuck(t, programOf(append(threadOf(lockOf(0)), a...), append(b, unlockOf(0))))
		}
	}
	n.checkCounts(t, 10)
}

func TestStuckOfLockThreads(t *testing.T) {
	n := stuckCounts{}
	for _, p := range lockThreadPrograms() {
		n.checkStuck(t, p)
	}
	n.checkCounts(t, 100)
}

func TestStuckOfTheLargestPrograms(t *testing.T) {
	n := stuckCounts{}
	adds := threadOf(addOf(0), addOf(1), addOf(2))
	locked := threadOf(lockOf(1), addOf(2), unlockOf(1))
	for _, p := range []impl.Program{
		programOf(adds, adds, adds),
		programOf(locked, locked, locked),
		programOf(fences(3), fences(3), append(fences(2), getFrom(0))),
		programOf(append(adds, lockOf(0)), append(adds, lockOf(0)), nil),
		programOf(append(lockBoth(0, 1), fences(1)...), lockBoth(1, 0)),
		programOf(threadOf(lockOf(0), lockOf(1), unlockOf(1), lockOf(1), unlockOf(1), unlockOf(0)), threadOf(lockOf(0), lockOf(1), unlockOf(0))),
		programOf(threadOf(sendTo(0), sendTo(0), storeOf(2)), threadOf(getFrom(0), storeOf(1), loadOf(2)), threadOf(getFrom(0), loadOf(1), loadOf(2))),
	} {
		n.checkStuck(t, p)
	}
	n.checkCounts(t, 1)
}

func TestStuckOrderExamples(t *testing.T) {
	cases := []struct {
		name  string
		p     impl.Program
		want  []int
		stuck bool
	}{
		{"a thread without statements", programOf(nil), nil, false},
		{"threads without statements", programOf(nil, nil, nil), nil, false},
		{"what never waits", storesAndLoads(), nil, false},
		{"locks the other way round", crossedLocks(), []int{0, 1}, true},
		{"locks in the same order", programOf(lockBoth(0, 1), lockBoth(0, 1)), nil, false},
		{"locks one in the other, and one behind the other", programOf(threadOf(lockOf(0), lockOf(1), unlockOf(1), unlockOf(0)), threadOf(lockOf(0), unlockOf(0), lockOf(1), unlockOf(1))), nil, false},
		{"a lock that the thread has", programOf(lockTwice(1)), []int{0}, true},
		{"a lock that the last thread has", programOf(nil, fences(1), lockTwice(1)), []int{1, 2}, true},
		{"a lock that is never let free", keptLocks(), []int{0, 0}, true},
		{"a lock that nobody else takes is never let free", programOf(threadOf(lockOf(0)), threadOf(lockOf(1))), nil, false},
		{"an unlock of what nobody has", programOf(fences(1), threadOf(unlockOf(0))), []int{0}, true},
		{"an unlock of what another one has", programOf(threadOf(lockOf(0)), threadOf(unlockOf(0))), []int{0}, true},
		{"a channel to which nobody sends", programOf(threadOf(getFrom(0))), nil, true},
		{"a channel to which nobody sends, beside threads that are done", programOf(nil, threadOf(getFrom(1)), nil), nil, true},
		{"a channel from which nobody gets", programOf(threadOf(sendTo(1))), nil, false},
		{"two sends to a channel from which nobody gets", programOf(threadOf(sendTo(1), sendTo(1)), nil), []int{0}, true},
		{"two threads send to a channel from which nobody gets", programOf(threadOf(sendTo(1)), threadOf(sendTo(1))), []int{0}, true},
		{"sends to two channels from which nobody gets", programOf(threadOf(sendTo(1)), threadOf(sendTo(0))), nil, false},
		{"one send for two gets", oneSendTwoGets(), []int{1, 0}, true},
		{"two sends for two gets", twoSendsTwoGets(), nil, false},
		{"a get under the lock that the send waits for", programOf(threadOf(lockOf(0), getFrom(0), unlockOf(0)), threadOf(lockOf(0), sendTo(0), unlockOf(0))), []int{0}, true},
		{"a lock that is passed over", programOf(threadOf(lockOf(0), skipOver(0, 1), lockOf(0))), nil, false},
		{"a lock that is passed over in some orders", programOf(threadOf(loadOf(0), skipOver(0, 1), getFrom(0)), storeAt(0)), []int{1, 0, 0}, true},
		{"a circle of two of three", bystander(), []int{0, 0}, true},
	}
	for _, c := range cases {
		if order, ok := impl.StuckOrder(c.p); ok != c.stuck || !sameNumbers(order, c.want) {
			t.Errorf("%s: StuckOrder = %v, %v, want %v, %v", c.name, order, ok, c.want, c.stuck)
		}
		if impl.StuckFree(c.p) == c.stuck {
			t.Errorf("%s: StuckFree = %v", c.name, c.stuck)
		}
	}
}

func TestLockPairsExamples(t *testing.T) {
	none, first, second := []bool{false, false}, []bool{true, false}, []bool{false, true}
	cases := []struct {
		name string
		p    impl.Program
		want [][]bool
	}{
		{"a thread without statements", programOf(nil), [][]bool{none, none}},
		{"no locks", handOn(), [][]bool{none, none}},
		{"one lock", guardedAdds(), [][]bool{none, none}},
		{"the second lock with the first one", programOf(lockBoth(0, 1)), [][]bool{second, none}},
		{"the first lock with the second one", programOf(fences(1), nil, lockBoth(1, 0)), [][]bool{none, first}},
		{"two threads in the same order", programOf(lockBoth(0, 1), lockBoth(0, 1)), [][]bool{second, none}},
		{"two threads in both orders", crossedLocks(), [][]bool{second, first}},
		{"one thread in both orders", programOf(threadOf(lockOf(0), lockOf(1), unlockOf(0), lockOf(0))), [][]bool{second, first}},
		{"a lock that the thread has", programOf(lockTwice(0), lockTwice(1)), [][]bool{none, none}},
		{"a lock that the thread has, behind another one", programOf(threadOf(lockOf(1), lockOf(0), lockOf(1))), [][]bool{none, first}},
		{"a lock behind one that the thread never gets", programOf(threadOf(lockOf(0), lockOf(0), lockOf(1))), [][]bool{none, none}},
		{"a lock behind one that is free again", programOf(threadOf(lockOf(0), unlockOf(0), lockOf(1))), [][]bool{none, none}},
		{"a lock taken again behind its unlock", programOf(threadOf(lockOf(0), unlockOf(0), lockOf(0))), [][]bool{none, none}},
		{"locks of two threads", otherLocks(), [][]bool{none, none}},
		{"a lock behind a get that waits for ever", programOf(threadOf(lockOf(0), getFrom(0), lockOf(1))), [][]bool{none, none}},
		{"a lock behind a get that is sent to", programOf(threadOf(lockOf(0), getFrom(0), lockOf(1)), threadOf(sendTo(0))), [][]bool{second, none}},
		{"a lock that is passed over", programOf(threadOf(lockOf(0), skipOver(0, 1), lockOf(1))), [][]bool{none, none}},
		{"a lock that is passed over in some orders", lateLock(), [][]bool{second, none}},
		{"a lock that another one keeps in some orders", programOf(threadOf(lockOf(1), lockOf(0)), threadOf(lockOf(0))), [][]bool{none, first}},
		{"a lock that another one always keeps", programOf(threadOf(getFrom(0), lockOf(0), lockOf(1)), threadOf(lockOf(1), sendTo(0))), [][]bool{none, none}},
	}
	for _, c := range cases {
		if pairs, ok := impl.LockPairs(c.p); !ok || !sameRows(pairs, c.want) {
			t.Errorf("%s: LockPairs = %v, %v, want %v", c.name, pairs, ok, c.want)
		}
	}
}

func TestAscendingExamples(t *testing.T) {
	other := threadOf(
		impl.Stmt{Kind: impl.StLet, A: 0, B: 1, C: 3}, impl.Stmt{Kind: impl.StLoad, A: 0, B: 1, Strong: true}, impl.Stmt{Kind: impl.StStore, A: 2, B: 0, C: 1, Strong: true},
		impl.Stmt{Kind: impl.StSwap, A: 0, B: 1, C: 3}, addOf(1), fences(1)[0],
	)
	cases := []struct {
		name string
		p    impl.Program
		want bool
	}{
		{"a thread without statements", programOf(nil), true},
		{"threads without statements", programOf(nil, nil, nil), true},
		{"what is no lock", programOf(other, other[:3]), true},
		{"places under locks", programOf(threadOf(lockOf(0), storeOf(0), lockOf(1), loadOf(1), unlockOf(1), unlockOf(0)), nil), true},
		{"the first lock", programOf(threadOf(lockOf(0), unlockOf(0))), true},
		{"the second lock", programOf(threadOf(lockOf(1), unlockOf(1))), true},
		{"both locks, the last one free first", programOf(lockBoth(0, 1)), true},
		{"both locks, the first one free first", programOf(threadOf(lockOf(0), lockOf(1), unlockOf(0), unlockOf(1))), true},
		{"the second lock, and then the first one", programOf(threadOf(lockOf(1), unlockOf(1), lockOf(0), unlockOf(0))), true},
		{"a lock again", programOf(threadOf(lockOf(0), lockOf(1), unlockOf(1), lockOf(1), unlockOf(1), unlockOf(0))), true},
		{"three threads", programOf(lockBoth(0, 1), threadOf(lockOf(1), unlockOf(1)), threadOf(lockOf(0), unlockOf(0))), true},
		{"a send", programOf(threadOf(sendTo(0))), false},
		{"a get", programOf(threadOf(getFrom(0))), false},
		{"a skip", programOf(threadOf(skipOver(0, 1))), false},
		{"a send of the last thread", programOf(lockBoth(0, 1), nil, threadOf(lockOf(0), unlockOf(0), sendTo(1))), false},
		{"a get that is sent to", programOf(threadOf(sendTo(0)), threadOf(getFrom(0))), false},
		{"a skip over nothing", programOf(threadOf(lockOf(0), skipOver(0, 1), unlockOf(0))), false},
		{"out of order", programOf(lockBoth(1, 0)), false},
		{"out of order in the second thread", programOf(lockBoth(0, 1), lockBoth(1, 0)), false},
		{"out of order in the last thread", programOf(nil, nil, threadOf(lockOf(1), lockOf(0), unlockOf(1), unlockOf(0))), false},
		{"out of order behind an unlock", programOf(threadOf(lockOf(0), lockOf(1), unlockOf(0), lockOf(0), unlockOf(0), unlockOf(1))), false},
		{"the first lock twice", programOf(threadOf(lockOf(0), lockOf(0), unlockOf(0))), false},
		{"the second lock twice", programOf(threadOf(lockOf(1), lockOf(1), unlockOf(1))), false},
		{"the first lock twice, and let free twice", programOf(threadOf(lockOf(0), lockOf(0), unlockOf(0), unlockOf(0))), false},
		{"the first lock again behind the second one", programOf(threadOf(lockOf(0), lockOf(1), lockOf(0), unlockOf(1), unlockOf(0))), false},
		{"let free by one that has none", programOf(threadOf(unlockOf(0))), false},
		{"let free by one that has another one", programOf(threadOf(lockOf(0), unlockOf(1), unlockOf(0))), false},
		{"let free twice", programOf(threadOf(lockOf(1), unlockOf(1), unlockOf(1))), false},
		{"let free ahead of the lock", programOf(threadOf(unlockOf(1), lockOf(1))), false},
		{"let free by another thread", programOf(threadOf(lockOf(0)), threadOf(unlockOf(0))), false},
		{"the first lock never let free", programOf(threadOf(lockOf(0))), false},
		{"the second lock never let free", programOf(threadOf(lockOf(1))), false},
		{"one of both never let free", programOf(threadOf(lockOf(0), lockOf(1), unlockOf(0))), false},
		{"the other one of both never let free", programOf(threadOf(lockOf(0), lockOf(1), unlockOf(1))), false},
		{"never let free by the last thread", programOf(lockBoth(0, 1), fences(1), threadOf(lockOf(0))), false},
	}
	for _, c := range cases {
		if impl.Ascending(c.p) != c.want {
			t.Errorf("%s: Ascending = %v", c.name, !c.want)
		}
	}
}

// longerThreads returns all threads of some statements with one more of others behind.
func longerThreads(threads [][]impl.Stmt, stmts []impl.Stmt) [][]impl.Stmt {
	list := [][]impl.Stmt{}
	for _, thread := range threads {
		for _, s := range stmts {
			list = append(list, append(append([]impl.Stmt{}, thread...), s))
		}
	}
	return list
}

func TestAscendingOfAllThreads(t *testing.T) {
	stmts := threadOf(lockOf(0), lockOf(1), unlockOf(0), unlockOf(1), storeOf(0), sendTo(0))
	threads := [][]impl.Stmt{nil}
	ascending := 0
	for range 6 {
		threads = longerThreads(threads, stmts)
		for _, thread := range threads {
			want := plainAscends(thread)
			for _, p := range []impl.Program{programOf(thread), programOf(nil, thread), programOf(fences(3), thread, nil)} {
				if impl.Ascending(p) != want {
					t.Fatalf("Ascending(%v) = %v", p, !want)
				}
			}
			if want {
				ascending++
			}
		}
	}
	if ascending < 100 {
		t.Errorf("%d threads take locks in order", ascending)
	}
}

func TestEachKindInAscending(t *testing.T) {
	for _, s := range goodStmts() {
		// The lock and its unlock stand around it, so that a lock is taken twice or out of order, or let free by who has it or not.
		for _, p := range []impl.Program{programOf(threadOf(s)), programOf(threadOf(lockOf(1), s, unlockOf(1))), programOf(nil, threadOf(lockOf(0), s, unlockOf(0)))} {
			if impl.Ascending(p) != plainAscending(p) {
				t.Errorf("Ascending(%v) = %v", p, impl.Ascending(p))
			}
		}
	}
	for _, s := range badStmts() {
		if impl.Ascending(programOf(threadOf(s))) || impl.Ascending(programOf(fences(1), threadOf(fences(1)[0], s))) {
			t.Errorf("Ascending of what is no statement: %v", s)
		}
	}
}

// ascendingThreads returns those threads that take locks in order, of at most four statements.
func ascendingThreads() [][]impl.Stmt {
	stmts := threadOf(lockOf(0), lockOf(1), unlockOf(0), unlockOf(1), addOf(0))
	threads := [][]impl.Stmt{nil}
	list := [][]impl.Stmt{nil}
	for range 4 {
		threads = longerThreads(threads, stmts)
		for _, thread := range threads {
			if plainAscends(thread) {
				list = append(list, thread)
			}
		}
	}
	return list
}

func TestAscendingIsNeverStuck(t *testing.T) {
	n := stuckCounts{}
	threads := ascendingThreads()
	for _, a := range threads {
		for _, b := range threads {
			n.checkStuck(t, programOf(a, b))
			if len(a) <= 3 && len(b) <= 3 {
				n.checkStuck(t, programOf(a, threadOf(lockOf(0), unlockOf(0)), b))
			}
		}
	}
	if n.all < 500 || n.ascending != n.all || n.free != n.all {
		t.Errorf("of %d programs, %d take locks in order, and %d are never stuck", n.all, n.ascending, n.free)
	}
}

// roomyLocks returns a program whose threads lie in one array with room behind, and all of that array. In a roomy state of it the first thread waits for itself, and the last one for the first one.
func roomyLocks() (impl.Program, []impl.Stmt) {
	array := threadOf(
		lockOf(1), lockOf(0), unlockOf(0), fences(1)[0],
		lockOf(0), unlockOf(0), fences(1)[0],
		lockOf(1), lockOf(1), unlockOf(1), fences(1)[0],
	)
	threads := make([][]impl.Stmt, 0, 5)
	threads = append(threads, array[0:3], array[4:6], array[7:10])
	return impl.Program{Threads: threads}, array
}

// checkRoomyLocks fails the test if a roomy program, or its array, is not as it was.
func checkRoomyLocks(t *testing.T, name string, p impl.Program, array []impl.Stmt) {
	t.Helper()
	fresh, stmts := roomyLocks()
	checkRoomy(t, name, p, array, fresh, stmts)
}

// checkRoomy fails the test if a program with room behind its threads, or the array in which these lie, is not as a fresh one.
func checkRoomy(t *testing.T, name string, p impl.Program, array []impl.Stmt, fresh impl.Program, stmts []impl.Stmt) {
	t.Helper()
	if !sameProgram(p, fresh) || !sameThread(array, stmts) {
		t.Errorf("%s has changed its program: %v, %v", name, p, array)
	}
	for _, thread := range p.Threads[:5][3:] {
		if thread != nil {
			t.Errorf("%s has written behind the threads of its program", name)
		}
	}
}

func TestWaitingReturnsNewMemoryAndChangesNoArgument(t *testing.T) {
	p, array := roomyLocks()
	s, numbers := roomyState()
	waits, circle := impl.WaitsFor(p, s), impl.Circle(p, s)
	if !sameNumbers(waits, []int{0, -1, 0}) || !sameNumbers(circle, []int{0}) || impl.Stuck(p, s) {
		t.Errorf("WaitsFor = %v, Circle = %v, Stuck = %v", waits, circle, impl.Stuck(p, s))
	}
	checkOwnLists(t, "WaitsFor, Circle", [][]int{waits, circle, impl.WaitsFor(p, s), impl.Circle(p, s)})
	checkRoomyLocks(t, "what is asked of a state, or writing to what it returned,", p, array)
	checkState(t, "what is asked of a state, or writing to what it returned,", numbers)
	n := waitCounts{}
	n.checkWaiting(t, p, s)
	for _, c := range stuckCases() {
		before := copied(c.s)
		checkOwnLists(t, "WaitsFor, Circle", [][]int{impl.WaitsFor(c.p, c.s), impl.Circle(c.p, c.s), impl.WaitsFor(c.p, c.s), impl.Circle(c.p, c.s)})
		if !sameState(c.s, before) {
			t.Errorf("%s: a state has changed to %v", c.name, c.s)
		}
		n.checkWaiting(t, c.p, c.s)
	}
}

func TestStuckReturnsNewMemoryAndChangesNoArgument(t *testing.T) {
	n := stuckCounts{}
	fresh := append(fewPrograms(), waitPrograms()...)
	for i, p := range append(fewPrograms(), waitPrograms()...) {
		order, _ := impl.StuckOrder(p)
		otherOrder, _ := impl.StuckOrder(p)
		checkOwnLists(t, "StuckOrder", [][]int{order, otherOrder})
		pairs, _ := impl.LockPairs(p)
		otherPairs, _ := impl.LockPairs(p)
		checkOwnRows(t, "LockPairs", pairs)
		if !sameRows(otherPairs, plainPairs(p)) {
			t.Errorf("two answers share memory: %v", otherPairs)
		}
		n.checkStuck(t, p)
		if !sameProgram(p, fresh[i]) {
			t.Errorf("what is asked of a program's waiting has changed %v", p)
		}
	}
	p, array := roomyLocks()
	n.checkStuck(t, p)
	checkRoomyLocks(t, "what is asked of a program's waiting", p, array)
}
