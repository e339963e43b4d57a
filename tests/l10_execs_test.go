package tests

import (
	"math"
	"testing"

	"loop.example/wholethreads/impl"
)

// execWith returns an execution of an order of threads, from where their statements read, and what writes the places; those that are not told are written by none.
func execWith(order []int, from []int, mods ...[]int) impl.Exec {
	e := impl.Exec{Order: order, From: from, Mods: make([][]int, 3)}
	copy(e.Mods, mods)
	return e
}

// sameExec reports whether two executions have the same lists.
func sameExec(a impl.Exec, b impl.Exec) bool {
	return sameNumbers(a.Order, b.Order) && sameNumbers(a.From, b.From) && sameOrderLists(a.Mods, b.Mods)
}

// isNoExec reports whether an execution has nothing.
func isNoExec(e impl.Exec) bool { return sameExec(e, impl.Exec{}) }

// copiedExec returns an execution that shares no memory with another one, and has the same.
func copiedExec(e impl.Exec) impl.Exec {
	return impl.Exec{Order: append([]int{}, e.Order...), From: append([]int{}, e.From...), Mods: copiedLists(e.Mods)}
}

// simpleStmts returns statements of simple programs at two places.
func simpleStmts() []impl.Stmt {
	return threadOf(
		storeTo(0, 1), storeTo(0, 2), strong(storeTo(0, 3)), storeTo(1, 1), strong(storeTo(1, 2)), sumInto(1, 0), sumInto(0, 1),
		loadInto(0, 0), loadInto(1, 0), loadInto(1, 1), strong(loadInto(0, 1)), strong(loadInto(1, 0)), strong(loadInto(0, 0)),
		swapAt(0, 3), swapAt(1, 2), addOf(0), addOf(1), impl.Stmt{Kind: impl.StAdd, A: 0, B: 0, C: 3},
	)
}

// ownStmts returns statements of simple programs that have no place.
func ownStmts() []impl.Stmt {
	return threadOf(impl.Stmt{Kind: impl.StLet, A: 0, B: 1, C: 1}, impl.Stmt{Kind: impl.StLet, A: 1, B: -1, C: 2}, skipOver(0, 1), skipOver(1, 2), skipOver(2, 1))
}

// simpleOf returns those of some programs that are simple.
func simpleOf(programs []impl.Program) []impl.Program {
	list := []impl.Program{}
	for _, p := range programs {
		if plainSimple(p) {
			list = append(list, p)
		}
	}
	return list
}

// swapsAndSums returns two threads that add to one place, and a third one that swaps there.
func swapsAndSums() impl.Program {
	twice := impl.Stmt{Kind: impl.StAdd, A: 1, B: 0, C: 2}
	return programOf(threadOf(addOf(0), twice), threadOf(swapAt(0, 3)), threadOf(impl.Stmt{Kind: impl.StAdd, A: 2, B: 0, C: 3}))
}

// skipsStore returns a thread that stores if it has loaded what another one stores.
func skipsStore() impl.Program {
	return programOf(threadOf(loadInto(2, 0), skipOver(2, 1), storeTo(1, 3)), threadOf(storeTo(0, 1)))
}

// skipsToTheEnd returns a thread that passes over all that is left of it if it has not loaded what another one stores.
func skipsToTheEnd() impl.Program {
	return programOf(threadOf(storeTo(0, 1)), threadOf(loadInto(1, 0), skipOver(1, 6), storeTo(2, 1), loadInto(0, 2)))
}

// toldOn returns a thread that stores at two places, the second time strongly, one that passes that on, and a third one that may know of the first store then.
func toldOn() impl.Program {
	return programOf(threadOf(storeOf(0), strong(storeOf(1))), threadOf(strong(loadInto(0, 1)), loadInto(1, 0)), threadOf(storeTo(0, 2)))
}

// execExamples returns simple programs of all that executions hang on.
func execExamples() []impl.Program {
	ask, tell := strong(loadInto(0, 1)), strong(storeOf(1))
	return []impl.Program{
		programOf(nil), programOf(nil, nil, nil), programOf(ownStmts()), programOf(ownStmts()[:3], nil, ownStmts()[2:]), programOf(storeAt(2)), programOf(nil, storeAt(0)),
		passedOn(), storesAndLoads(), lostUpdate(), overwritten(), skipped(), skipsStore(), skipsToTheEnd(), crossedStores(), swapThenStores(), seenByOthers(),
		programOf(threadOf(storeOf(0), tell), threadOf(ask, loadInto(1, 0))),
		programOf(threadOf(storeOf(0), tell), threadOf(loadInto(0, 1), loadInto(1, 0))),
		programOf(threadOf(storeOf(0), storeOf(1)), threadOf(ask, loadInto(1, 0))),
		programOf(threadOf(storeOf(0), tell), threadOf(ask, storeTo(0, 2))),
		programOf(threadOf(storeOf(0), addOf(1)), threadOf(addOf(1), loadInto(1, 0))),
		programOf(threadOf(storeOf(0), tell), threadOf(swapAt(1, 2)), threadOf(ask)),
		programOf(threadOf(storeTo(0, 1), loadInto(0, 0)), threadOf(storeTo(0, 2), loadInto(0, 0))),
		programOf(threadOf(storeTo(0, 1), storeTo(0, 2)), threadOf(loadInto(0, 0), loadInto(1, 0))),
		programOf(threadOf(addOf(0), addOf(0)), threadOf(addOf(0))), programOf(threadOf(addOf(0)), threadOf(addOf(0)), threadOf(storeTo(0, 2))),
		programOf(threadOf(swapAt(0, 1), storeTo(0, 2)), threadOf(swapAt(0, 3), loadInto(0, 0))),
		programOf(threadOf(loadInto(0, 0), skipOver(0, 2), storeTo(0, 2), storeTo(1, 1)), threadOf(storeTo(0, 1), loadInto(1, 1))),
		swapsAndSums(), toldOn(),
	}
}

// execPrograms returns drawn programs of at most so many statements with a place.
func execPrograms(most int, count int, seed uint32) []impl.Program {
	all := append(append(simpleStmts(), ownStmts()...), simpleStmts()...)
	lengths := [][]int{{4}, {2, 2}, {3, 1}, {2, 1, 1}, {1, 2, 1}, {3, 2}, {2, 3}, {3, 3}, {1, 1, 1}, {2, 0, 2}}
	if most == 5 {
		lengths = [][]int{{5}, {3, 2}, {2, 2, 1}, {4, 2}, {1, 2, 2}}
	}
	list := []impl.Program{}
	for _, p := range simpleOf(mixedOf(all, lengths, count, seed)) {
		placed := 0
		for _, stmts := range p.Threads {
			for _, st := range stmts {
				if plainPlace(st) >= 0 {
					placed++
				}
			}
		}
		if placed <= most {
			list = append(list, p)
		}
	}
	return list
}

// weakSimple returns so many simple programs of each of some sizes whose threads store first, and load then.
func weakSimple(count int, seed uint32) []impl.Program {
	return weakOf([][][3]int{
		{{1, 0, 1}, {1, 0, 1}}, {{2, 0, 0}, {0, 0, 2}}, {{2, 0, 0}, {1, 0, 2}}, {{1, 0, 0}, {1, 0, 1}, {0, 0, 2}}, {{2, 0, 0}, {1, 0, 0}, {0, 0, 2}},
	}, count, &draw{seed})
}

func TestSimpleOkOfEachStatement(t *testing.T) {
	for _, st := range goodStmts() {
		want := st.Kind <= 4 || st.Kind == 10
		for _, p := range []impl.Program{programOf(threadOf(st)), programOf(nil, threadOf(st), nil), programOf(threadOf(storeOf(0), st), ownStmts(), nil), programOf(ownStmts(), storeAt(2), threadOf(lets(1)[0], st))} {
			if impl.SimpleOk(p) != want {
				t.Errorf("SimpleOk(%v) = %v", p, !want)
			}
		}
	}
	for _, st := range badStmts() {
		if p := programOf(threadOf(st)); impl.SimpleOk(p) {
			t.Errorf("SimpleOk(%v) = true", p)
		}
	}
}

// ofPlaced returns programs of so many statements of a kind that has a place, in one, two and three threads, with as many others as there may be.
func ofPlaced(st impl.Stmt, count int) []impl.Program {
	stmts := []impl.Stmt{}
	for range count {
		stmts = append(stmts, st)
	}
	list := []impl.Program{}
	if count <= 6 {
		list = append(list, programOf(stmts), programOf(nil, stmts, nil), programOf(stmts, lets(3)))
	}
	half := count / 2
	list = append(list, programOf(stmts[:half], stmts[half:]), programOf(stmts[:half], nil, stmts[half:]))
	return append(list, programOf(stmts[:half/2], stmts[half/2:half], append(append([]impl.Stmt{}, stmts[half:]...), lets(6-(count-half))...)))
}

func TestSimpleOkOfHowManyStatements(t *testing.T) {
	for _, st := range goodStmts() {
		if st.Kind < 1 || st.Kind > 4 {
			continue
		}
		for count := range 10 {
			for _, p := range ofPlaced(st, count) {
				if impl.ProgramOk(p) && impl.SimpleOk(p) != (count <= 5) {
					t.Errorf("%d times %v: SimpleOk = %v", count, st, count > 5)
				}
			}
		}
	}
	cases := []struct {
		name string
		p    impl.Program
		want bool
	}{
		{"no statements", programOf(nil), true},
		{"three threads without statements", programOf(nil, nil, nil), true},
		{"nine statements without a place", programOf(ownStmts()[:3], ownStmts()[:3], ownStmts()[2:]), true},
		{"five with a place, and four others", programOf(threadOf(storeOf(0), lets(1)[0], loadOf(1)), threadOf(addOf(2), skipOver(0, 1), swapAt(0, 1)), threadOf(strong(storeOf(1)), skipOver(1, 6), lets(1)[0])), true},
		{"six with a place, of each kind", programOf(threadOf(storeOf(0), loadOf(1), addOf(2)), threadOf(swapAt(0, 1), strong(storeOf(1)), strong(loadOf(2)))), false},
		{"six with a place, one of which is passed over", programOf(threadOf(skipOver(0, 6), storeOf(0), storeOf(1), storeOf(2)), threadOf(storeOf(0), storeOf(1), storeOf(2))), false},
		{"nine with a place", programOf(storeStmts()[:3], storeStmts()[3:6], storeStmts()[6:9]), false},
		{"a fence among simple statements", programOf(storeAt(0), threadOf(loadOf(0), fences(1)[0])), false},
		{"a lock that is passed over", programOf(threadOf(skipOver(0, 1), lockOf(0))), false},
	}
	for _, c := range cases {
		if impl.SimpleOk(c.p) != c.want {
			t.Errorf("%s: SimpleOk = %v", c.name, !c.want)
		}
	}
	if impl.MaxSimple != 5 {
		t.Errorf("MaxSimple = %d", impl.MaxSimple)
	}
	for _, p := range storedNoPrograms() {
		if impl.SimpleOk(p) {
			t.Errorf("SimpleOk(%v) = true", p)
		}
	}
	for _, p := range append(allPrograms(), bufPrograms()...) {
		if impl.SimpleOk(p) != plainSimple(p) {
			t.Errorf("SimpleOk(%v) = %v", p, !plainSimple(p))
		}
	}
}

// checkNoExec fails the test if there is an answer about what is no execution of a program.
func checkNoExec(t *testing.T, name string, p impl.Program, e impl.Exec) {
	t.Helper()
	o, has := impl.ExecOutcome(p, e)
	rows := impl.Happens(p, e)
	if impl.ExecOk(p, e) || has || !isNoOutcome(o) || len(rows) != 0 || impl.Coherent(p, e) {
		t.Fatalf("%s: of %v, %v: ExecOk = %v, ExecOutcome = %v, %v, Happens = %v, Coherent = %v", name, p, e, impl.ExecOk(p, e), o, has, rows, impl.Coherent(p, e))
	}
}

// checkExec fails the test if what is asked of an execution is not what is plainly told of it. It returns whether it is coherent.
func checkExec(t *testing.T, p impl.Program, e impl.Exec, told plainTale) bool {
	t.Helper()
	o, has := impl.ExecOutcome(p, e)
	if want := plainExecOutcome(p, told, e.Mods); !impl.ExecOk(p, e) || !has || !sameOutcome(o, want) {
		t.Fatalf("of %v, %v: ExecOk = %v, ExecOutcome = %v, %v, want %v", p, e, impl.ExecOk(p, e), o, has, want)
	}
	if rows, want := impl.Happens(p, e), plainHappens(told); !sameRows(rows, want) {
		t.Fatalf("Happens(%v, %v) = %v, want %v", p, e, rows, want)
	}
	want := plainCoherent(told, e.Mods)
	if impl.Coherent(p, e) != want {
		t.Fatalf("Coherent(%v, %v) = %v", p, e, !want)
	}
	return want
}

// checkAnyExec fails the test if an execution is not taken as one just if it plainly is one, or if what is asked of it is not what is plainly told. It returns whether it is one.
func checkAnyExec(t *testing.T, name string, p impl.Program, e impl.Exec) bool {
	t.Helper()
	told, ok := plainTold(p, e)
	if ok {
		checkExec(t, p, e, told)
	} else {
		checkNoExec(t, name, p, e)
	}
	return ok
}

func TestExecOkExamples(t *testing.T) {
	p := passedOn()
	order, from, first, second := []int{0, 0, 1, 1}, []int{-1, -1, 1, 0}, []int{0}, []int{1}
	late := []int{1, 1, 0, 0}
	adds := swapsAndSums()
	three := programOf(storeAt(0), threadOf(storeTo(0, 2)), threadOf(storeTo(0, 3)))
	long := make([]int, 100000)
	cases := []struct {
		name string
		p    impl.Program
		e    impl.Exec
		want bool
	}{
		{"all reads from what is ahead", p, execWith(order, from, first, second), true},
		{"all reads from the beginning", p, execWith(order, []int{-1, -1, -1, -1}, first, second), true},
		{"loads ahead of all stores", p, execWith(late, []int{-1, -1, -1, -1}, []int{2}, []int{3}), true},
		{"threads by turns", p, execWith([]int{0, 1, 0, 1}, []int{-1, -1, -1, 0}, []int{0}, []int{2}), true},
		{"nothing at all", programOf(nil), execWith(nil, nil), true},
		{"nothing of three threads", programOf(nil, nil, nil), execWith([]int{}, []int{}, []int{}, []int{}, []int{}), true},
		{"nothing of three threads, and no places", programOf(nil, nil, nil), impl.Exec{}, false},

		{"no Order", p, execWith(nil, nil, nil, nil), false},
		{"an Order that is too short", p, execWith(order[:3], from[:3], first, second), false},
		{"an Order too short by a store", p, execWith([]int{0, 1, 1}, []int{-1, -1, 0}, first), false},
		{"an Order too short by what has no place", programOf(threadOf(storeOf(0), lets(1)[0])), execWith([]int{0}, []int{-1}, first), false},
		{"an Order too long by a thread that is done", p, execWith([]int{0, 0, 1, 1, 1}, []int{-1, -1, 1, 0, -1}, first, second), false},
		{"an Order too long by another thread that is done", p, execWith([]int{0, 0, 0, 1, 1}, []int{-1, -1, -1, 1, 0}, first, second), false},
		{"an Order of no statements that is too long", programOf(nil), execWith([]int{0}, []int{-1}), false},
		{"an Order of many", p, execWith(long, long, first, second), false},
		{"a thread that there is not", p, execWith([]int{0, 0, 1, 2}, from, first, second), false},
		{"a thread that there is not behind the others", p, execWith([]int{0, 0, 1, 1, 2}, []int{-1, -1, 1, 0, -1}, first, second), false},
		{"a negative thread", p, execWith([]int{0, 0, 1, -1}, from, first, second), false},
		{"the least thread", p, execWith([]int{math.MinInt, 0, 1, 1}, from, first, second), false},
		{"the greatest thread", p, execWith([]int{0, 0, 1, math.MaxInt}, from, first, second), false},
		{"a thread of another program", p, execWith([]int{1, 1, 1, 1}, from, first, second), false},

		{"a skip that passes over nothing", skipsStore(), execWith([]int{1, 0, 0, 0}, []int{-1, 0, -1, -1}, []int{0}, []int{3}), true},
		{"a skip that passes over a store", skipsStore(), execWith([]int{1, 0, 0}, []int{-1, -1, -1}, []int{0}), true},
		{"a store that is passed over is done", skipsStore(), execWith([]int{1, 0, 0, 0}, []int{-1, -1, -1, -1}, []int{0}, []int{3}), false},
		{"a store that is passed over writes", skipsStore(), execWith([]int{1, 0, 0}, []int{-1, -1, -1}, []int{0}, []int{2}), false},
		{"a store that is not passed over is left out", skipsStore(), execWith([]int{1, 0, 0}, []int{-1, 0, -1}, []int{0}), false},
		{"a skip to the end", skipsToTheEnd(), execWith([]int{1, 1, 0}, []int{-1, -1, -1}, []int{2}), true},
		{"a skip to the end, read from the store", skipsToTheEnd(), execWith([]int{0, 1, 1, 1, 1}, []int{-1, 0, -1, -1, 3}, []int{0}, nil, []int{3}), true},
		{"a skip to the end, and a statement more", skipsToTheEnd(), execWith([]int{1, 1, 1, 0}, []int{-1, -1, -1, -1}, []int{3}, nil, []int{2}), false},

		{"no From", p, execWith(order, nil, first, second), false},
		{"a From that is too short", p, execWith(order, from[:3], first, second), false},
		{"a From that is too long", p, execWith(order, []int{-1, -1, 1, 0, -1}, first, second), false},
		{"a From of many", p, execWith(order, long, first, second), false},
		{"reading from an event behind it", p, execWith(late, []int{3, -1, -1, -1}, []int{2}, []int{3}), false},
		{"reading from itself", p, execWith(order, []int{-1, -1, 2, 0}, first, second), false},
		{"an add that reads from itself", programOf(threadOf(addOf(0))), execWith([]int{0}, []int{0}, first), false},
		{"reading from one that is no write", programOf(storeAt(0), threadOf(loadInto(0, 0), loadInto(1, 0))), execWith([]int{0, 1, 1}, []int{-1, 0, 1}, first), false},
		{"reading from a let", programOf(threadOf(lets(1)[0], loadInto(0, 0))), execWith([]int{0, 0}, []int{-1, 0}), false},
		{"reading from one of another place", p, execWith(order, []int{-1, -1, 0, 0}, first, second), false},
		{"reading from two others of other places", p, execWith(order, []int{-1, -1, 0, 1}, first, second), false},
		{"reading from a negative index", p, execWith(order, []int{-1, -1, -2, 0}, first, second), false},
		{"reading from the least index", p, execWith(order, []int{-1, -1, math.MinInt, 0}, first, second), false},
		{"reading from an index past the end", p, execWith(order, []int{-1, -1, 4, 0}, first, second), false},
		{"reading from the greatest index", p, execWith(order, []int{-1, -1, math.MaxInt, 0}, first, second), false},
		{"a store that reads from itself", p, execWith(order, []int{0, -1, 1, 0}, first, second), false},
		{"a store that reads from a store of its place", three, execWith([]int{0, 1, 2}, []int{-1, 0, -1}, []int{0, 1, 2}), false},
		{"a store of a sum that reads", programOf(storeAt(0), threadOf(sumInto(0, 1))), execWith([]int{0, 1}, []int{-1, 0}, []int{0, 1}), false},
		{"a let that reads", programOf(threadOf(storeOf(0), lets(1)[0])), execWith([]int{0, 0}, []int{-1, 0}, first), false},
		{"a skip that reads", programOf(threadOf(storeOf(0), skipOver(0, 1))), execWith([]int{0, 0}, []int{-1, 0}, first), false},
		{"a store that reads from a negative index", p, execWith(order, []int{-2, -1, 1, 0}, first, second), false},
		{"sums that read from each other", adds, execWith([]int{0, 1, 2, 0}, []int{-1, 0, 1, 2}, []int{0, 1, 2, 3}), true},
		{"sums that all read from the first one", adds, execWith([]int{0, 1, 2, 0}, []int{-1, 0, 0, 0}, []int{3, 2, 1, 0}), true},

		{"no Mods", p, impl.Exec{Order: order, From: from}, false},
		{"Mods of one place too few", p, impl.Exec{Order: order, From: from, Mods: [][]int{first, second}}, false},
		{"Mods of a place too many", p, impl.Exec{Order: order, From: from, Mods: [][]int{first, second, nil, nil}}, false},
		{"Mods of many places", p, impl.Exec{Order: order, From: from, Mods: make([][]int, 1000)}, false},
		{"an event twice", p, execWith(order, from, []int{0, 0}, second), false},
		{"an event twice in the stead of another one", three, execWith([]int{0, 1, 2}, []int{-1, -1, -1}, []int{0, 1, 1}), false},
		{"an event at two places", p, execWith(order, from, []int{0}, []int{1}, []int{1}), false},
		{"an event left out", p, execWith(order, from, first), false},
		{"one of three left out", three, execWith([]int{0, 1, 2}, []int{-1, -1, -1}, []int{2, 0}), false},
		{"events of other places", p, execWith(order, from, second, first), false},
		{"one of another place", p, execWith(order, from, []int{0, 1}, nil), false},
		{"a load among what writes", p, execWith(order, from, []int{0, 3}, second), false},
		{"a load in the stead of what writes", p, execWith(order, from, []int{3}, second), false},
		{"a let among what writes", programOf(threadOf(lets(1)[0], storeOf(0))), execWith([]int{0, 0}, []int{-1, -1}, []int{0, 1}), false},
		{"an index past the end", p, execWith(order, from, []int{4}, second), false},
		{"an index past the end among others", p, execWith(order, from, []int{0, 4}, second), false},
		{"an index far past the end", p, execWith(order, from, []int{0, 64}, second), false},
		{"the greatest index", p, execWith(order, from, []int{math.MaxInt}, second), false},
		{"a negative index", p, execWith(order, from, []int{0, -1}, second), false},
		{"the least index", p, execWith(order, from, []int{math.MinInt}, second), false},
		{"many indexes", p, execWith(order, from, long, second), false},
		{"all orders may be: ascending", three, execWith([]int{2, 0, 1}, []int{-1, -1, -1}, []int{0, 1, 2}), true},
		{"all orders may be: the other way round", three, execWith([]int{2, 0, 1}, []int{-1, -1, -1}, []int{2, 1, 0}), true},
		{"all orders may be: against that of one thread", programOf(threadOf(storeTo(0, 1), storeTo(0, 2))), execWith([]int{0, 0}, []int{-1, -1}, []int{1, 0}), true},

		{"a program with a fence", programOf(threadOf(storeOf(0), fences(1)[0])), execWith([]int{0, 0}, []int{-1, -1}, first), false},
		{"a program with six statements with a place", programOf(storeStmts()[:6]), execWith([]int{0, 0, 0, 0, 0, 0}, []int{-1, -1, -1, -1, -1, -1}, []int{0, 1}, []int{2, 3}, []int{4, 5}), false},
		{"a program with a lock", programOf(threadOf(lockOf(0))), execWith([]int{0}, []int{-1}), false},
	}
	for _, c := range cases {
		if impl.ExecOk(c.p, c.e) != c.want {
			t.Errorf("%s: ExecOk = %v", c.name, !c.want)
		}
		if checkAnyExec(t, c.name, c.p, c.e) != c.want {
			t.Errorf("%s: plainly, it is the other way", c.name)
		}
	}
}

func TestExecsOfWhatIsNoSimpleProgram(t *testing.T) {
	list := storedNoPrograms()
	for _, p := range allPrograms() {
		if !plainSimple(p) {
			list = append(list, p)
		}
	}
	for _, p := range list {
		for _, e := range []impl.Exec{{}, execWith(nil, nil), execWith([]int{0}, []int{-1}), execWith([]int{0}, []int{-1}, []int{0}), execWith([]int{0, 1}, []int{-1, -1}, []int{0, 1}), execWith([]int{0, 0}, []int{-1, 0}, nil, []int{0})} {
			checkNoExec(t, "no simple program", p, e)
		}
		for _, order := range impl.Orders(p) {
			none := []int{}
			for range order {
				none = append(none, -1)
			}
			checkNoExec(t, "no simple program", p, execWith(order, none))
			break
		}
		if list, ok := impl.ExecOutcomes(p); ok || len(list) != 0 {
			t.Errorf("ExecOutcomes(%v) = %v, %v", p, list, ok)
		}
		for _, steps := range [][][]int{nil, {{0, 0}}, {{0, 0}, {0, 0}}, {{0, 0}, {1, 0}}} {
			if e, ok := impl.ExecOf(p, steps); ok || !isNoExec(e) {
				t.Errorf("ExecOf(%v, %v) = %v, %v", p, steps, e, ok)
			}
		}
	}
}

// otherLists returns lists that are nearly one: with a number left out, another one in its stead, or one more, of the numbers from one up to another one, or one far off.
func otherLists(list []int, low int, high int) [][]int {
	others := [][]int{}
	numbers := []int{math.MinInt, math.MaxInt, 64}
	for n := low; n <= high; n++ {
		numbers = append(numbers, n)
	}
	for at := range len(list) + 1 {
		for _, n := range numbers {
			others = append(others, append(longer(list[:at], n), list[at:]...))
			if at < len(list) {
				others = append(others, append(longer(list[:at], n), list[at+1:]...))
			}
		}
		if at < len(list) {
			others = append(others, append(append([]int{}, list[:at]...), list[at+1:]...))
		}
	}
	return others
}

// nearlyExecs returns what is nearly an execution of so many threads: one of its lists is nearly what it is, or there is a place too many or too few.
func nearlyExecs(e impl.Exec, threads int) []impl.Exec {
	list := []impl.Exec{}
	count := len(e.Order)
	for _, order := range otherLists(e.Order, -1, threads) {
		list = append(list, impl.Exec{Order: order, From: e.From, Mods: e.Mods})
		if len(order) != count {
			list = append(list, impl.Exec{Order: order, From: longer(e.From, -1)[:len(order)], Mods: e.Mods})
		}
	}
	for _, from := range otherLists(e.From, -2, count) {
		list = append(list, impl.Exec{Order: e.Order, From: from, Mods: e.Mods})
	}
	for place := range e.Mods {
		for _, mods := range otherLists(e.Mods[place], -1, count) {
			broken := copiedExec(e)
			broken.Mods[place] = mods
			list = append(list, broken)
		}
		for other := range e.Mods {
			broken := copiedExec(e)
			broken.Mods[place], broken.Mods[other] = broken.Mods[other], broken.Mods[place]
			list = append(list, broken)
			if len(e.Mods[place]) > 0 {
				broken = copiedExec(e)
				broken.Mods[other] = append(broken.Mods[other], broken.Mods[place][0])
				broken.Mods[place] = broken.Mods[place][1:]
				list = append(list, broken)
			}
		}
	}
	for length := range 6 {
		list = append(list, impl.Exec{Order: e.Order, From: e.From, Mods: append(copiedLists(e.Mods), nil, nil)[:length]})
	}
	return list
}

func TestWhatIsNearlyAnExecution(t *testing.T) {
	d := &draw{101}
	are, none := 0, 0
	for _, p := range append(execExamples(), execPrograms(5, 6, 102)...) {
		tales := plainTales(p)
		for range min(4, len(tales)) {
			told := tales[d.below(len(tales))]
			all := modsOf(told)
			for _, e := range nearlyExecs(execOfTale(told, all[d.below(len(all))]), len(p.Threads)) {
				if checkAnyExec(t, "nearly an execution", p, e) {
					are++
				} else {
					none++
				}
			}
		}
	}
	if are < 1000 || none < 10000 {
		t.Errorf("%d are executions, and %d are none", are, none)
	}
}

func TestExecOutcomeExamples(t *testing.T) {
	adds := swapsAndSums()
	sums := programOf(threadOf(loadInto(0, 0), impl.Stmt{Kind: impl.StStore, A: 0, B: 0, C: 3}), threadOf(loadInto(1, 0), impl.Stmt{Kind: impl.StStore, A: 1, B: 1, C: 2}))
	lets := programOf(threadOf(addOf(2), impl.Stmt{Kind: impl.StLet, A: 1, B: 0, C: 3}, impl.Stmt{Kind: impl.StLet, A: 0, B: -1, C: 2}), threadOf(impl.Stmt{Kind: impl.StSwap, A: 2, B: 2, C: 2}))
	cases := []struct {
		name string
		p    impl.Program
		e    impl.Exec
		regs []int
		mem  []int
	}{
		{"nothing at all", programOf(nil, nil), execWith(nil, nil), []int{0, 0, 0, 0, 0, 0}, []int{0, 0, 0}},
		{"a store", programOf(threadOf(storeTo(1, 3))), execWith([]int{0}, []int{-1}, nil, []int{0}), []int{0, 0, 0}, []int{0, 3, 0}},
		{"loads from what is ahead", passedOn(), execWith([]int{0, 0, 1, 1}, []int{-1, -1, 1, 0}, []int{0}, []int{1}), []int{0, 0, 0, 1, 1, 0}, []int{1, 1, 0}},
		{"loads from the beginning", passedOn(), execWith([]int{0, 0, 1, 1}, []int{-1, -1, -1, -1}, []int{0}, []int{1}), []int{0, 0, 0, 0, 0, 0}, []int{1, 1, 0}},
		{"sums that read from each other", adds, execWith([]int{0, 1, 2, 0}, []int{-1, 0, 1, 2}, []int{0, 1, 2, 3}), []int{0, 2, 0, 0, 1, 0, 0, 0, 3}, []int{0, 0, 0}},
		{"a swap that reads from a sum, the last one of a sum that reads from a sum", adds, execWith([]int{0, 2, 0, 1}, []int{-1, 0, 1, 1}, []int{3, 2, 0, 1}), []int{0, 0, 0, 0, 0, 0, 0, 0, 1}, []int{0, 0, 0}},
		{"sums that read from a swap", adds, execWith([]int{1, 0, 0, 2}, []int{-1, 0, 1, 2}, []int{0, 1, 2, 3}), []int{3, 0, 0, 0, 0, 0, 0, 0, 2}, []int{1, 0, 0}},
		{"the swap is the last one, out of order", adds, execWith([]int{1, 0, 0, 2}, []int{-1, 0, 1, 2}, []int{1, 2, 3, 0}), []int{3, 0, 0, 0, 0, 0, 0, 0, 2}, []int{3, 0, 0}},
		{"a sum in the middle is the last one, out of order", adds, execWith([]int{1, 0, 0, 2}, []int{-1, 0, 1, 2}, []int{0, 1, 3, 2}), []int{3, 0, 0, 0, 0, 0, 0, 0, 2}, []int{2, 0, 0}},
		{"all read from the beginning", adds, execWith([]int{0, 0, 1, 2}, []int{-1, -1, -1, -1}, []int{3, 2, 0, 1}), make([]int, 9), []int{2, 0, 0}},
		{"stores of sums of what is loaded", sums, execWith([]int{0, 0, 1, 1}, []int{-1, -1, 1, -1}, []int{1}, []int{3}), []int{0, 0, 0, 0, 3, 0}, []int{3, 1, 0}},
		{"stores of sums of the beginning", sums, execWith([]int{0, 0, 1, 1}, []int{-1, -1, -1, -1}, []int{1}, []int{3}), []int{0, 0, 0, 0, 0, 0}, []int{3, 2, 0}},
		{"lets of what a sum reads", lets, execWith([]int{1, 0, 0, 0}, []int{-1, 0, -1, -1}, nil, nil, []int{0, 1}), []int{2, 1, 0, 0, 0, 0}, []int{0, 0, 3}},
		{"lets of what a sum reads, out of order", lets, execWith([]int{1, 0, 0, 0}, []int{-1, 0, -1, -1}, nil, nil, []int{1, 0}), []int{2, 1, 0, 0, 0, 0}, []int{0, 0, 2}},
		{"the swap reads the sum", lets, execWith([]int{0, 0, 1, 0}, []int{-1, -1, 0, -1}, nil, nil, []int{0, 2}), []int{2, 3, 0, 0, 0, 1}, []int{0, 0, 2}},
		{"a store that is passed over", skipsStore(), execWith([]int{1, 0, 0}, []int{-1, -1, -1}, []int{0}), []int{0, 0, 0, 0, 0, 0}, []int{1, 0, 0}},
		{"a store that is not passed over", skipsStore(), execWith([]int{1, 0, 0, 0}, []int{-1, 0, -1, -1}, []int{0}, []int{3}), []int{0, 0, 1, 0, 0, 0}, []int{1, 3, 0}},
		{"stores of one thread, out of order", programOf(threadOf(storeTo(0, 1), storeTo(0, 2))), execWith([]int{0, 0}, []int{-1, -1}, []int{1, 0}), []int{0, 0, 0}, []int{1, 0, 0}},
	}
	for _, c := range cases {
		done := []bool{}
		for range c.p.Threads {
			done = append(done, true)
		}
		want := impl.Outcome{Regs: c.regs, Mem: c.mem, Done: done}
		if o, ok := impl.ExecOutcome(c.p, c.e); !ok || !sameOutcome(o, want) {
			t.Errorf("%s: ExecOutcome = %v, %v, want %v", c.name, o, ok, want)
		}
		if !checkAnyExec(t, c.name, c.p, c.e) {
			t.Errorf("%s: plainly, it is no execution", c.name)
		}
	}
}

func TestExecOutcomeOfAllOrdersOfStores(t *testing.T) {
	p := programOf(threadOf(storeTo(0, 1), storeTo(1, 3)), threadOf(storeTo(0, 2), storeTo(1, 2)), threadOf(storeTo(0, 3)))
	order := []int{0, 1, 2, 0, 1}
	for _, first := range arrangements([]int{0, 1, 2}) {
		for _, second := range arrangements([]int{3, 4}) {
			e := execWith(order, []int{-1, -1, -1, -1, -1}, first, second)
			want := impl.Outcome{Regs: make([]int, 9), Mem: []int{first[2] + 1, 6 - second[1], 0}, Done: []bool{true, true, true}}
			if o, ok := impl.ExecOutcome(p, e); !ok || !sameOutcome(o, want) {
				t.Errorf("ExecOutcome(%v) = %v, %v, want %v", e, o, ok, want)
			}
		}
	}
}

func TestHappensExamples(t *testing.T) {
	ask, tell := strong(loadInto(0, 1)), strong(storeOf(1))
	older := loadInto(1, 0)
	order, from := []int{0, 0, 1, 1}, []int{-1, -1, 1, -1}
	own := [][]int{{0, 1}, {2, 3}}
	all := [][]int{{0, 1}, {0, 2}, {0, 3}, {1, 2}, {1, 3}, {2, 3}}
	inTurn := programOf(threadOf(addOf(0)), threadOf(addOf(0)), threadOf(addOf(0)))
	through := programOf(threadOf(storeOf(0), tell), threadOf(swapAt(1, 2)), threadOf(ask, older))
	cases := []struct {
		name string
		p    impl.Program
		e    impl.Exec
		want [][]int
	}{
		{"nothing at all", programOf(nil), execWith(nil, nil), nil},
		{"events of one thread", programOf(threadOf(lets(1)[0], skipOver(0, 1), storeOf(0), loadOf(0))), execWith([]int{0, 0, 0}, []int{-1, -1, -1}), [][]int{{0, 1}, {0, 2}, {1, 2}}},
		{"events of two threads", programOf(storeAt(0), storeAt(0)), execWith([]int{0, 1}, []int{-1, -1}, []int{0, 1}), nil},
		{"a load that is not strong, from a store that is not", passedOn(), execWith(order, from, []int{0}, []int{1}), own},
		{"a strong load from a store that is not", programOf(threadOf(storeOf(0), storeOf(1)), threadOf(ask, older)), execWith(order, from, []int{0}, []int{1}), own},
		{"a load that is not strong, from one that is", programOf(threadOf(storeOf(0), tell), threadOf(loadInto(0, 1), older)), execWith(order, from, []int{0}, []int{1}), own},
		{"a strong load from a strong store", programOf(threadOf(storeOf(0), tell), threadOf(ask, older)), execWith(order, from, []int{0}, []int{1}), all},
		{"a strong load from the beginning", programOf(threadOf(storeOf(0), tell), threadOf(ask, older)), execWith(order, []int{-1, -1, -1, -1}, []int{0}, []int{1}), own},
		{"a strong load from another strong store", programOf(threadOf(storeOf(0), tell), threadOf(strong(storeTo(1, 2))), threadOf(ask, older)), execWith([]int{0, 0, 1, 2, 2}, []int{-1, -1, -1, 2, -1}, []int{0}, []int{1, 2}), [][]int{{0, 1}, {2, 3}, {2, 4}, {3, 4}}},
		{"a sum from a strong store", programOf(threadOf(storeOf(0), tell), threadOf(addOf(1), older)), execWith(order, from, []int{0}, []int{1, 2}), all},
		{"a swap from a strong store", programOf(threadOf(storeOf(0), tell), threadOf(swapAt(1, 2), older)), execWith(order, from, []int{0}, []int{1, 2}), all},
		{"a swap from a store that is not strong", programOf(threadOf(storeOf(0), storeOf(1)), threadOf(swapAt(1, 2), older)), execWith(order, from, []int{0}, []int{1, 2}), own},
		{"a strong load from a sum", programOf(threadOf(storeOf(0), addOf(1)), threadOf(ask, older)), execWith(order, from, []int{0}, []int{1}), all},
		{"a load that is not strong from a sum", programOf(threadOf(storeOf(0), addOf(1)), threadOf(loadInto(0, 1), older)), execWith(order, from, []int{0}, []int{1}), own},
		{"a swap from a sum", programOf(threadOf(storeOf(0), addOf(1)), threadOf(swapAt(1, 3), older)), execWith(order, from, []int{0}, []int{1, 2}), all},
		{"sums in turn", inTurn, execWith([]int{2, 0, 1}, []int{-1, 0, 1}, []int{0, 1, 2}), [][]int{{0, 1}, {0, 2}, {1, 2}}},
		{"sums that read from one", inTurn, execWith([]int{2, 0, 1}, []int{-1, 0, 0}, []int{0, 1, 2}), [][]int{{0, 1}, {0, 2}}},
		{"sums that read from the beginning", inTurn, execWith([]int{2, 0, 1}, []int{-1, -1, -1}, []int{0, 1, 2}), nil},
		{"through a swap", through, execWith([]int{0, 0, 1, 2, 2}, []int{-1, -1, 1, 2, -1}, []int{0}, []int{1, 2}), [][]int{{0, 1}, {0, 2}, {0, 3}, {0, 4}, {1, 2}, {1, 3}, {1, 4}, {2, 3}, {2, 4}, {3, 4}}},
		{"past a swap that reads from the beginning", through, execWith([]int{0, 0, 1, 2, 2}, []int{-1, -1, -1, 2, -1}, []int{0}, []int{1, 2}), [][]int{{0, 1}, {2, 3}, {2, 4}, {3, 4}}},
		{"through a thread at other places", programOf(threadOf(tell), threadOf(ask, strong(storeOf(2))), threadOf(strong(loadInto(0, 2)), older)), execWith([]int{0, 1, 1, 2, 2}, []int{-1, 0, -1, 2, -1}, nil, []int{0}, []int{2}), [][]int{{0, 1}, {0, 2}, {0, 3}, {0, 4}, {1, 2}, {1, 3}, {1, 4}, {2, 3}, {2, 4}, {3, 4}}},
		{"through a thread that hands on what it knew of ahead alone", programOf(threadOf(tell), threadOf(strong(storeOf(2)), ask), threadOf(strong(loadInto(0, 2)), older)), execWith([]int{0, 1, 1, 2, 2}, []int{-1, -1, 0, 1, -1}, nil, []int{0}, []int{1}), [][]int{{0, 2}, {1, 2}, {1, 3}, {1, 4}, {3, 4}}},
		{"an execution that is not coherent: a load of less than what is known", programOf(threadOf(storeOf(0), tell), threadOf(ask, older)), execWith(order, from, []int{0}, []int{1}), all},
		{"an execution that is not coherent: stores of one thread the other way round", programOf(threadOf(storeTo(0, 1), storeTo(0, 2))), execWith([]int{0, 0}, []int{-1, -1}, []int{1, 0}), [][]int{{0, 1}}},
	}
	for _, c := range cases {
		rows := impl.Happens(c.p, c.e)
		if pairs := pairsIn(rows); !sameOrderLists(pairs, c.want) || len(rows) != len(c.e.Order) {
			t.Errorf("%s: Happens = %v, want %v", c.name, pairs, c.want)
		}
		if !checkAnyExec(t, c.name, c.p, c.e) {
			t.Errorf("%s: plainly, it is no execution", c.name)
		}
	}
}

func TestCoherentExamples(t *testing.T) {
	ask, tell := strong(loadInto(0, 1)), strong(storeOf(1))
	twice := programOf(storeAt(0), threadOf(loadInto(0, 0), loadInto(1, 0)))
	both := programOf(threadOf(storeTo(0, 1)), threadOf(storeTo(0, 2)), threadOf(loadInto(0, 0), loadInto(1, 0)))
	after := programOf(threadOf(storeTo(0, 1)), threadOf(loadInto(0, 0), storeTo(0, 2)))
	told := programOf(threadOf(storeOf(0), tell), threadOf(ask, loadInto(1, 0)))
	weak := programOf(threadOf(storeOf(0), tell), threadOf(loadInto(0, 1), loadInto(1, 0)))
	puts := programOf(threadOf(storeOf(0), tell), threadOf(ask, storeTo(0, 2)))
	known := programOf(threadOf(storeTo(0, 1)), threadOf(loadInto(0, 0), tell), threadOf(ask, storeTo(0, 2)))
	swaps := programOf(threadOf(swapAt(0, 1)), threadOf(swapAt(0, 2)))
	between := programOf(threadOf(storeTo(0, 1)), threadOf(addOf(0)), threadOf(storeTo(0, 2)))
	ownSwap := programOf(threadOf(storeTo(0, 1), addOf(0)), threadOf(storeTo(0, 2)))
	unlike := programOf(threadOf(storeTo(0, 1), loadInto(0, 0)), threadOf(storeTo(0, 2), loadInto(0, 0)))
	order, none := []int{0, 0, 1, 1}, []int{-1, -1, -1, -1}
	seen, five := []int{-1, -1, 1, -1}, []int{0, 1, 2, 2}
	cases := []struct {
		name string
		p    impl.Program
		e    impl.Exec
		want bool
	}{
		{"nothing at all", programOf(nil), execWith(nil, nil), true},
		{"a load of a store, and again", twice, execWith([]int{0, 1, 1}, []int{-1, 0, 0}, []int{0}), true},
		{"a load of the beginning, and then of the store", twice, execWith([]int{0, 1, 1}, []int{-1, -1, 0}, []int{0}), true},
		{"a load of less than what was read", twice, execWith([]int{0, 1, 1}, []int{-1, 0, -1}, []int{0}), false},
		{"loads of two stores, as they stand", both, execWith(five, []int{-1, -1, 0, 1}, []int{0, 1}), true},
		{"loads of two stores, the other way round", both, execWith(five, []int{-1, -1, 0, 1}, []int{1, 0}), false},
		{"loads of two stores as they stand, against Order", both, execWith(five, []int{-1, -1, 1, 0}, []int{1, 0}), true},
		{"a load of less than what was written", programOf(threadOf(storeOf(0), loadInto(0, 0))), execWith([]int{0, 0}, []int{-1, -1}, []int{0}), false},
		{"a load of what was written", programOf(threadOf(storeOf(0), loadInto(0, 0))), execWith([]int{0, 0}, []int{-1, 0}, []int{0}), true},
		{"a load of more than what was written", overwritten(), execWith([]int{0, 1, 0}, []int{-1, -1, 1}, []int{0, 1}), true},
		{"a load of another store, less than what was written", overwritten(), execWith([]int{0, 1, 0}, []int{-1, -1, 1}, []int{1, 0}), false},
		{"a write behind what was seen", after, execWith([]int{0, 1, 1}, []int{-1, 0, -1}, []int{0, 2}), true},
		{"a write that is put ahead of what was seen", after, execWith([]int{0, 1, 1}, []int{-1, 0, -1}, []int{2, 0}), false},
		{"a write ahead of what was not seen", after, execWith([]int{0, 1, 1}, []int{-1, -1, -1}, []int{2, 0}), true},
		{"a write behind one of its own", programOf(threadOf(storeTo(0, 1), storeTo(0, 2))), execWith([]int{0, 0}, []int{-1, -1}, []int{0, 1}), true},
		{"a write that is put ahead of one of its own", programOf(threadOf(storeTo(0, 1), storeTo(0, 2))), execWith([]int{0, 0}, []int{-1, -1}, []int{1, 0}), false},
		{"writes at two places, each the other way round", crossedStores(), execWith(order, none, []int{3, 0}, []int{2, 1}), true},
		{"writes at two places, as their threads put them", crossedStores(), execWith(order, none, []int{0, 3}, []int{1, 2}), true},
		{"writes at two places, each last where it came first", crossedStores(), execWith(order, none, []int{3, 0}, []int{1, 2}), true},

		{"a load of less than what is told", told, execWith(order, seen, []int{0}, []int{1}), false},
		{"a load of what is told", told, execWith(order, []int{-1, -1, 1, 0}, []int{0}, []int{1}), true},
		{"a load of less than what is not told, as nothing is read", told, execWith(order, none, []int{0}, []int{1}), true},
		{"a load of less than what is not told, as it is not strong", weak, execWith(order, seen, []int{0}, []int{1}), true},
		{"a load of less than what is not told, as its store is not strong", programOf(threadOf(storeOf(0), storeOf(1)), threadOf(ask, loadInto(1, 0))), execWith(order, seen, []int{0}, []int{1}), true},
		{"a load of less than what a sum tells", programOf(threadOf(storeOf(0), addOf(1)), threadOf(addOf(1), loadInto(1, 0))), execWith(order, seen, []int{0}, []int{1, 2}), false},
		{"a load of less than what a swap tells of a third one", programOf(threadOf(storeOf(0), tell), threadOf(swapAt(1, 2)), threadOf(ask, loadInto(1, 0))), execWith([]int{0, 0, 1, 2, 2}, []int{-1, -1, 1, 2, -1}, []int{0}, []int{1, 2}), false},
		{"a load of less than what a swap does not tell", programOf(threadOf(storeOf(0), tell), threadOf(swapAt(1, 2)), threadOf(ask, loadInto(1, 0))), execWith([]int{0, 0, 1, 2, 2}, []int{-1, -1, -1, 2, -1}, []int{0}, []int{2, 1}), true},
		{"a write that is put ahead of what is told", puts, execWith(order, seen, []int{3, 0}, []int{1}), false},
		{"a write behind what is told", puts, execWith(order, seen, []int{0, 3}, []int{1}), true},
		{"a write ahead of what is not told", puts, execWith(order, none, []int{3, 0}, []int{1}), true},
		{"a write that is put ahead of what another one is told to have seen", known, execWith([]int{0, 1, 1, 2, 2}, []int{-1, 0, -1, 2, -1}, []int{4, 0}, []int{2}), false},
		{"a write behind what another one is told to have seen", known, execWith([]int{0, 1, 1, 2, 2}, []int{-1, 0, -1, 2, -1}, []int{0, 4}, []int{2}), true},
		{"a write ahead of what another one is not told to have seen", known, execWith([]int{0, 1, 1, 2, 2}, []int{-1, 0, -1, -1, -1}, []int{4, 0}, []int{2}), true},

		{"a swap that reads from a swap", swaps, execWith([]int{0, 1}, []int{-1, 0}, []int{0, 1}), true},
		{"a swap that is put ahead of what it reads", swaps, execWith([]int{0, 1}, []int{-1, 0}, []int{1, 0}), false},
		{"two swaps that read from the beginning", swaps, execWith([]int{0, 1}, []int{-1, -1}, []int{0, 1}), false},
		{"two swaps that read from the beginning, the other way round", swaps, execWith([]int{0, 1}, []int{-1, -1}, []int{1, 0}), false},
		{"a sum right behind what it reads", between, execWith([]int{0, 1, 2}, []int{-1, 0, -1}, []int{0, 1, 2}), true},
		{"a sum right behind what it reads, behind another one", between, execWith([]int{0, 1, 2}, []int{-1, 0, -1}, []int{2, 0, 1}), true},
		{"a sum not right behind what it reads", between, execWith([]int{0, 1, 2}, []int{-1, 0, -1}, []int{0, 2, 1}), false},
		{"a sum ahead of what it reads", between, execWith([]int{0, 1, 2}, []int{-1, 0, -1}, []int{2, 1, 0}), false},
		{"a sum not right behind the beginning, which it reads", between, execWith([]int{0, 1, 2}, []int{-1, -1, -1}, []int{0, 1, 2}), false},
		{"a sum right behind the beginning, which it reads", between, execWith([]int{0, 1, 2}, []int{-1, -1, -1}, []int{1, 2, 0}), true},
		{"a sum that reads what its thread wrote", ownSwap, execWith([]int{0, 0, 1}, []int{-1, 0, -1}, []int{0, 1, 2}), true},
		{"a sum that reads another store behind what its thread wrote", ownSwap, execWith([]int{0, 1, 0}, []int{-1, -1, 1}, []int{0, 1, 2}), true},
		{"a sum that reads less than what its thread wrote", ownSwap, execWith([]int{0, 1, 0}, []int{-1, -1, 1}, []int{1, 2, 0}), false},
		{"a sum that reads the beginning behind what its thread wrote", ownSwap, execWith([]int{0, 0, 1}, []int{-1, -1, -1}, []int{1, 0, 2}), false},

		{"stores that nothing orders", programOf(threadOf(storeTo(0, 1)), threadOf(storeTo(0, 2))), execWith([]int{0, 1}, []int{-1, -1}, []int{1, 0}), true},
		{"a load of the beginning behind a store that nothing orders", programOf(storeAt(0), threadOf(loadInto(0, 0))), execWith([]int{0, 1}, []int{-1, -1}, []int{0}), true},
		{"writes that two threads order unlike", unlike, execWith([]int{0, 1, 0, 1}, []int{-1, -1, 1, 0}, []int{0, 1}), false},
		{"writes that two threads order unlike, the other way round", unlike, execWith([]int{0, 1, 0, 1}, []int{-1, -1, 1, 0}, []int{1, 0}), false},
		{"writes that two threads order alike", unlike, execWith([]int{0, 1, 0, 1}, []int{-1, -1, 1, 1}, []int{0, 1}), true},
		{"writes that two threads order alike, the other way round", unlike, execWith([]int{0, 1, 0, 1}, []int{-1, -1, 0, 0}, []int{1, 0}), true},
	}
	for _, c := range cases {
		if impl.Coherent(c.p, c.e) != c.want {
			t.Errorf("%s: Coherent = %v", c.name, !c.want)
		}
		if !checkAnyExec(t, c.name, c.p, c.e) {
			t.Errorf("%s: plainly, it is no execution", c.name)
		}
	}
}

// execCounts is how many programs and executions there were, how many of these are coherent, and how many programs have outcomes that no buffers come to.
type execCounts struct {
	programs int
	all      int
	coherent int
	more     int
}

// checkExecs fails the test if what is asked of any execution of a program is not what is plainly told, or the outcomes of all coherent ones are not ExecOutcomes and those of the machine with views. It counts them.
func (n *execCounts) checkExecs(t *testing.T, p impl.Program) {
	t.Helper()
	w := walk{}
	for _, told := range plainTales(p) {
		for _, mods := range modsOf(told) {
			n.all++
			if checkExec(t, p, execOfTale(told, mods), told) {
				n.coherent++
				w.addOutcome(plainExecOutcome(p, told, mods))
			}
		}
	}
	n.checkExecOutcomes(t, p, w.outcomes)
}

// checkExecOutcomes fails the test if ExecOutcomes of a program are not some outcomes, or these are not those of the machine with views. It counts the program.
func (n *execCounts) checkExecOutcomes(t *testing.T, p impl.Program, want []impl.Outcome) {
	t.Helper()
	list, ok := impl.ExecOutcomes(p)
	if !ok || !sameOutcomes(list, want) {
		t.Fatalf("ExecOutcomes(%v) = %v, %v, want %v", p, list, ok, want)
	}
	if views := impl.ViewOutcomes(p); !sameOutcomes(list, views) {
		t.Fatalf("ExecOutcomes(%v) = %v, and ViewOutcomes = %v", p, list, views)
	}
	n.programs++
	if len(list) > len(impl.SpreadOutcomes(p)) {
		n.more++
	}
}

func TestAllExecutions(t *testing.T) {
	n := execCounts{}
	list := append(append(execExamples(), execPrograms(4, 60, 103)...), execPrograms(5, 80, 104)...)
	for _, p := range append(list, weakSimple(40, 114)...) {
		n.checkExecs(t, p)
	}
	if n.all < 150000 || n.coherent < 10000 || n.more < 15 {
		t.Errorf("of %d executions of %d programs, %d are coherent, and %d have outcomes that no buffers come to", n.all, n.programs, n.coherent, n.more)
	}
}

func TestAllExecutionsOfShortThreads(t *testing.T) {
	n := execCounts{}
	threads := shortThreads(threadOf(storeTo(0, 1), storeTo(1, 2), strong(storeTo(0, 2)), loadInto(0, 0), loadInto(1, 1), strong(loadInto(0, 0)), addOf(0), swapAt(1, 3), skipOver(0, 1)))
	for _, a := range threads {
		for _, b := range threads {
			n.checkExecs(t, programOf(a, b))
		}
	}
	if n.all < 200000 || n.coherent < 50000 || n.more < 50 {
		t.Errorf("of %d executions of %d programs, %d are coherent, and %d have outcomes that no buffers come to", n.all, n.programs, n.coherent, n.more)
	}
}

func TestAllExecutionsOfSumsAtOnePlace(t *testing.T) {
	n := execCounts{}
	add := func(r int, value int) impl.Stmt { return impl.Stmt{Kind: impl.StAdd, A: r, B: 0, C: value} }
	n.checkExecs(t, programOf(threadOf(add(0, 1), add(1, 2)), threadOf(add(0, 3)), threadOf(swapAt(0, 2))))
	n.checkExecs(t, programOf(threadOf(add(0, 1)), threadOf(storeTo(0, 2), swapAt(0, 3)), threadOf(loadInto(0, 0))))
	n.checkExecs(t, programOf(threadOf(storeTo(0, 1), add(1, 2), loadInto(2, 0)), threadOf(storeTo(0, 3), loadInto(0, 0))))
	if n.coherent < 100 {
		t.Errorf("of %d executions, %d are coherent", n.all, n.coherent)
	}
}

// placements returns all ways to put so many events into lists of three places, each into at most one, in all orders.
func placements(count int) [][][]int {
	if count == 0 {
		return [][][]int{{{}, {}, {}}}
	}
	all := [][][]int{}
	for _, mods := range placements(count - 1) {
		all = append(all, mods)
		for place := range mods {
			for at := range len(mods[place]) + 1 {
				with := copiedLists(mods)
				with[place] = append(longer(mods[place][:at], count-1), mods[place][at:]...)
				all = append(all, with)
			}
		}
	}
	return all
}

// fromLists returns all lists of so many indexes, each of one ahead of it or -1.
func fromLists(count int) [][]int {
	if count == 0 {
		return [][]int{{}}
	}
	all := [][]int{}
	for _, list := range fromLists(count - 1) {
		for from := -1; from < count-1; from++ {
			all = append(all, longer(list, from))
		}
	}
	return all
}

// searchedExecs returns all executions of a program, found by ExecOk among all lists that might be ones.
func searchedExecs(p impl.Program) []impl.Exec {
	total := 0
	for _, stmts := range p.Threads {
		total += len(stmts)
	}
	list := []impl.Exec{}
	for _, order := range ordersUpTo(total, len(p.Threads)) {
		for _, from := range fromLists(len(order)) {
			for _, mods := range placements(len(order)) {
				if e := execWith(order, from, mods...); impl.ExecOk(p, e) {
					list = append(list, e)
				}
			}
		}
	}
	return list
}

func TestExecOutcomesAgainstASearchByExecOk(t *testing.T) {
	list := []impl.Program{
		programOf(nil), programOf(nil, nil, nil), programOf(storeAt(0), storeAt(1)), programOf(threadOf(addOf(0)), threadOf(addOf(0)), threadOf(addOf(0))),
		programOf(threadOf(swapAt(0, 1)), threadOf(swapAt(0, 2)), threadOf(storeTo(0, 3))), overwritten(), programOf(threadOf(loadInto(0, 0), skipOver(0, 1), storeOf(1))),
		programOf(storeAt(0), threadOf(loadInto(0, 0), loadInto(1, 0))), programOf(threadOf(storeTo(0, 1), storeTo(0, 2)), threadOf(loadInto(0, 0))), programOf(storeAt(0), threadOf(strong(loadInto(0, 0)), storeTo(0, 2))),
	}
	all := append(simpleStmts(), ownStmts()...)
	list = append(list, mixedOf(all, [][]int{{1, 1}, {2, 1}, {1, 2}, {3}}, 12, 105)...)
	n := execCounts{}
	for _, p := range list {
		w := walk{}
		count := 0
		for _, told := range plainTales(p) {
			count += len(modsOf(told))
		}
		execs := searchedExecs(p)
		if len(execs) != count {
			t.Fatalf("%v has %d executions by ExecOk, want %d", p, len(execs), count)
		}
		for _, e := range execs {
			o, ok := impl.ExecOutcome(p, e)
			if !ok {
				t.Fatalf("ExecOutcome(%v, %v) = false", p, e)
			}
			if impl.Coherent(p, e) {
				w.addOutcome(o)
			}
		}
		n.checkExecOutcomes(t, p, w.outcomes)
	}
}

func TestExecOutcomesAreThoseOfViews(t *testing.T) {
	n := execCounts{}
	list := append(append(append(viewExamples(), viewPrograms()...), allPrograms()...), bufPrograms()...)
	list = append(append(append(list, weakPrograms()...), passedPrograms()...), crossedPrograms()...)
	list = append(list, onePlacePrograms()...)
	list = append(list, weakSimple(150, 107)...)
	all := append(append(simpleStmts(), ownStmts()...), ownStmts()...)
	for _, p := range append(simpleOf(list), simpleOf(mixedOf(all, [][]int{{2, 2, 1}, {2, 3}, {3, 3}, {2, 2, 2}, {3, 3, 2}, {3, 3, 3}, {4, 4}}, 150, 106))...) {
		n.checkExecOutcomes(t, p, impl.ViewOutcomes(p))
	}
	if n.programs < 1000 || n.more < 100 {
		t.Errorf("of %d programs, %d have outcomes that no buffers come to", n.programs, n.more)
	}
}

// playedExec returns the execution that steps make, which can all be done, told by what ViewPlay comes to behind each of them: a store that is put in moves on by one those behind it.
func playedExec(t *testing.T, p impl.Program, steps [][]int) impl.Exec {
	t.Helper()
	e := impl.Exec{Mods: make([][]int, 3)}
	// For each event, the place that it writes, or -1, and the number of its store there.
	places, numbers := []int{}, []int{}
	ahead, _ := impl.ViewBegin(p)
	for i, step := range steps {
		thread, way := step[0], step[1]
		st := p.Threads[thread][ahead.State.At[thread]]
		behind, ok := impl.ViewPlay(p, steps[:i+1])
		if !ok {
			t.Fatalf("ViewPlay(%v, %v) = false", p, steps[:i+1])
		}
		from, where, number := -1, -1, -1
		for k := range numbers {
			if plainReader(st) && places[k] == plainPlace(st) && numbers[k] == way {
				from = k
			}
		}
		if plainWriter(st) {
			where = plainPlace(st)
			number = behind.Views[thread][where]
		}
		for k := range numbers {
			if where >= 0 && places[k] == where && numbers[k] >= number {
				numbers[k]++
			}
		}
		places, numbers = append(places, where), append(numbers, number)
		e.Order, e.From = append(e.Order, thread), append(e.From, from)
		ahead = behind
	}
	for place, notes := range ahead.Notes {
		for number := 1; number < len(notes); number++ {
			for k := range numbers {
				if places[k] == place && numbers[k] == number {
					e.Mods[place] = append(e.Mods[place], k)
				}
			}
		}
	}
	return e
}

// checkExecOf fails the test if the execution of steps, with which all threads are done, is not what is plainly told, is not coherent, or comes to something else than the machine with views. It returns the execution.
func checkExecOf(t *testing.T, p impl.Program, steps [][]int) impl.Exec {
	t.Helper()
	e, ok := impl.ExecOf(p, steps)
	if want := playedExec(t, p, steps); !ok || !sameExec(e, want) {
		t.Fatalf("ExecOf(%v, %v) = %v, %v, want %v", p, steps, e, ok, want)
	}
	if !impl.ExecOk(p, e) || !impl.Coherent(p, e) {
		t.Fatalf("of %v, ExecOf(%v, %v): ExecOk = %v, Coherent = %v", e, p, steps, impl.ExecOk(p, e), impl.Coherent(p, e))
	}
	s, _ := impl.ViewPlay(p, steps)
	want, _ := impl.ViewOutcome(p, s)
	if o, ok := impl.ExecOutcome(p, e); !ok || !sameOutcome(o, want) {
		t.Fatalf("ExecOutcome(%v, %v) = %v, %v, and ViewOutcome behind %v = %v", p, e, o, ok, steps, want)
	}
	return e
}

// checkNoExecOf fails the test if steps make an execution.
func checkNoExecOf(t *testing.T, name string, p impl.Program, steps [][]int) {
	t.Helper()
	if e, ok := impl.ExecOf(p, steps); ok || !isNoExec(e) {
		t.Errorf("%s: ExecOf(%v, %v) = %v, %v", name, p, steps, e, ok)
	}
}

func TestExecOfExamples(t *testing.T) {
	three := programOf(threadOf(storeTo(0, 1)), threadOf(storeTo(0, 2), loadInto(0, 0)), threadOf(storeTo(0, 3)))
	cases := []struct {
		name  string
		p     impl.Program
		steps [][]int
		want  impl.Exec
	}{
		{"no steps", programOf(nil), nil, execWith(nil, nil)},
		{"no steps of three threads", programOf(nil, nil, nil), [][]int{}, execWith(nil, nil)},
		{"lets and skips", programOf(threadOf(lets(1)[0], skipOver(0, 2), storeOf(0), storeOf(1), lets(1)[0])), [][]int{{0, 0}, {0, 0}, {0, 0}}, execWith([]int{0, 0, 0}, []int{-1, -1, -1})},
		{"a store, a load of the beginning, and one of the store", programOf(storeAt(0), threadOf(loadInto(0, 0), loadInto(1, 0))), [][]int{{0, 0}, {1, 0}, {1, 1}}, execWith([]int{0, 1, 1}, []int{-1, -1, 0}, []int{0})},
		{"stores behind each other", three, [][]int{{0, 0}, {1, 1}, {2, 2}, {1, 3}}, execWith([]int{0, 1, 2, 1}, []int{-1, -1, -1, 2}, []int{0, 1, 2})},
		{"stores right ahead of each other", three, [][]int{{0, 0}, {1, 0}, {2, 0}, {1, 2}}, execWith([]int{0, 1, 2, 1}, []int{-1, -1, -1, 1}, []int{2, 1, 0})},
		{"a store between two others", three, [][]int{{0, 0}, {1, 1}, {2, 1}, {1, 3}}, execWith([]int{0, 1, 2, 1}, []int{-1, -1, -1, 1}, []int{0, 2, 1})},
		{"a store between two others behind a load of the second one", three, [][]int{{1, 0}, {0, 1}, {1, 2}, {2, 1}}, execWith([]int{1, 0, 1, 2}, []int{-1, -1, 1, -1}, []int{0, 3, 1})},
		{"a load of what stands where another one stood", three, [][]int{{0, 0}, {1, 0}, {1, 2}, {2, 0}}, execWith([]int{0, 1, 1, 2}, []int{-1, -1, 0, -1}, []int{3, 1, 0})},
		{"a swap of a store, and one of the beginning", programOf(threadOf(storeTo(0, 1)), threadOf(swapAt(0, 2)), threadOf(swapAt(0, 3))), [][]int{{0, 0}, {1, 1}, {2, 0}}, execWith([]int{0, 1, 2}, []int{-1, 0, -1}, []int{2, 0, 1})},
		{"sums in turn", swapsAndSums(), [][]int{{2, 0}, {0, 1}, {0, 2}, {1, 3}}, execWith([]int{2, 0, 0, 1}, []int{-1, 0, 1, 2}, []int{0, 1, 2, 3})},
		{"stores at two places", crossedStores(), [][]int{{0, 0}, {0, 0}, {1, 0}, {1, 0}}, execWith([]int{0, 0, 1, 1}, []int{-1, -1, -1, -1}, []int{3, 0}, []int{2, 1})},
		{"a skip over a store", skipsStore(), [][]int{{1, 0}, {0, 0}, {0, 0}}, execWith([]int{1, 0, 0}, []int{-1, -1, -1}, []int{0})},
		{"a skip over nothing", skipsStore(), [][]int{{1, 0}, {0, 1}, {0, 0}, {0, 0}}, execWith([]int{1, 0, 0, 0}, []int{-1, 0, -1, -1}, []int{0}, []int{3})},
	}
	for _, c := range cases {
		if e, ok := impl.ExecOf(c.p, c.steps); !ok || !sameExec(e, c.want) {
			t.Errorf("%s: ExecOf = %v, %v, want %v", c.name, e, ok, c.want)
		}
		checkExecOf(t, c.p, c.steps)
	}
	many := [][]int{}
	for range 100000 {
		many = append(many, []int{0, 0})
	}
	fence, lock := programOf(threadOf(storeOf(0), fences(1)[0])), programOf(threadOf(lockOf(0), storeOf(0), unlockOf(0)))
	none := []struct {
		name  string
		p     impl.Program
		steps [][]int
	}{
		{"no steps", passedOn(), nil},
		{"one thread that is not done", passedOn(), [][]int{{0, 0}, {0, 0}, {1, 0}}},
		{"a thread that has not begun", three, [][]int{{0, 0}, {1, 0}, {1, 1}}},
		{"a thread that is not done, as its skip passes over nothing", skipsStore(), [][]int{{1, 0}, {0, 1}, {0, 0}}},
		{"a thread that is done", passedOn(), [][]int{{0, 0}, {0, 0}, {1, 0}, {1, 0}, {1, 0}}},
		{"a thread that is done, as its skip passes over the store", skipsStore(), [][]int{{1, 0}, {0, 0}, {0, 0}, {0, 0}}},
		{"a load of what is known to be older", programOf(storeAt(0), threadOf(loadInto(0, 0), loadInto(1, 0))), [][]int{{0, 0}, {1, 1}, {1, 0}}},
		{"a store ahead of the own one", programOf(threadOf(storeTo(0, 1), storeTo(0, 2))), [][]int{{0, 0}, {0, 0}}},
		{"a store between a swap and what it read", swapThenStores(), [][]int{{0, 0}, {2, 0}, {1, 2}}},
		{"two swaps of the beginning", swapThenStores(), [][]int{{0, 0}, {1, 0}, {2, 2}}},
		{"a load of what is not stored yet", passedOn(), [][]int{{1, 1}, {0, 0}, {0, 0}, {1, 0}}},
		{"a way other than nought of a let", programOf(threadOf(lets(1)[0])), [][]int{{0, 1}}},
		{"a negative way", programOf(storeAt(0)), [][]int{{0, -1}}},
		{"the greatest way", programOf(storeAt(0)), [][]int{{0, math.MaxInt}}},
		{"a thread that there is not", programOf(storeAt(0)), [][]int{{1, 0}}},
		{"a negative thread", programOf(storeAt(0)), [][]int{{-1, 0}}},
		{"the least thread", programOf(storeAt(0)), [][]int{{math.MinInt, 0}}},
		{"a thread that there is not behind the others", programOf(storeAt(0)), [][]int{{0, 0}, {1, 0}}},
		{"a step that is nil", programOf(storeAt(0)), [][]int{nil}},
		{"an empty step behind the others", programOf(storeAt(0)), [][]int{{0, 0}, {}}},
		{"a step of a thread alone", programOf(storeAt(0)), [][]int{{0}}},
		{"a step of three numbers", programOf(storeAt(0)), [][]int{{0, 0, 0}}},
		{"a step of no thread", programOf(nil), [][]int{{0, 0}}},
		{"many steps", programOf(lets(6)), many},
		{"a program with a fence", fence, [][]int{{0, 0}, {0, 0}}},
		{"a program with a lock", lock, [][]int{{0, 0}, {0, 0}, {0, 0}}},
		{"a program with six statements with a place", programOf(threadOf(storeOf(0), storeOf(1), storeOf(2), loadOf(0), loadOf(1), loadOf(2))), [][]int{{0, 0}, {0, 0}, {0, 0}, {0, 1}, {0, 1}, {0, 1}}},
	}
	for _, c := range none {
		checkNoExecOf(t, c.name, c.p, c.steps)
	}
	for _, p := range []impl.Program{fence, lock, none[len(none)-1].p} {
		if s, ok := impl.ViewPlay(p, none[len(none)-1].steps[:len(p.Threads[0])]); !ok || s.State.At[0] != len(p.Threads[0]) {
			t.Errorf("what is not simple can not be played: %v, %v", s, ok)
		}
	}
}

// wholePlays returns all steps of a program, each one that can be done behind the others, till none can.
func wholePlays(p impl.Program, v plainViewed, steps [][]int) [][][]int {
	list := [][][]int{}
	ended := true
	for thread := range p.Threads {
		for _, way := range plainWays(p, v, thread) {
			ended = false
			next, _ := plainViewStep(p, v, thread, way)
			list = append(list, wholePlays(p, next, append(append([][]int{}, steps...), []int{thread, way}))...)
		}
	}
	if ended {
		return [][][]int{steps}
	}
	return list
}

// coherentExecs returns all coherent executions of a simple program, as plainly told.
func coherentExecs(p impl.Program) []impl.Exec {
	list := []impl.Exec{}
	for _, told := range plainTales(p) {
		for _, mods := range modsOf(told) {
			if plainCoherent(told, mods) {
				list = append(list, execOfTale(told, mods))
			}
		}
	}
	return list
}

// hasExec reports whether a list has an execution.
func hasExec(list []impl.Exec, e impl.Exec) bool {
	for _, other := range list {
		if sameExec(other, e) {
			return true
		}
	}
	return false
}

func TestExecOfMakesEachCoherentExecution(t *testing.T) {
	all := 0
	for _, p := range append(append(execExamples(), execPrograms(4, 40, 108)...), weakSimple(10, 113)...) {
		coherent := coherentExecs(p)
		if len(coherent) > 1500 {
			continue
		}
		made := []impl.Exec{}
		for _, steps := range wholePlays(p, plainViewBegin(), [][]int{}) {
			e := checkExecOf(t, p, steps)
			if hasExec(made, e) || !hasExec(coherent, e) {
				t.Fatalf("ExecOf(%v, %v) = %v, made before, or not coherent", p, steps, e)
			}
			made = append(made, e)
		}
		if len(made) != len(coherent) {
			t.Fatalf("%d executions of %v are made, and %d are coherent", len(made), p, len(coherent))
		}
		all += len(made)
	}
	if all < 5000 {
		t.Errorf("%d executions are made", all)
	}
}

func TestExecOfStepByStep(t *testing.T) {
	d := &draw{109}
	longest := 0
	list := append(execExamples(), execPrograms(5, 30, 110)...)
	for _, p := range append(list, simpleOf(mixedOf(append(simpleStmts(), append(ownStmts(), ownStmts()...)...), [][]int{{3, 3, 3}, {4, 5}, {6, 3}}, 60, 111))...) {
		for range 6 {
			steps := drawnViewSteps(p, d)
			checkExecOf(t, p, steps)
			for length := range len(steps) {
				checkNoExecOf(t, "threads that are not done", p, steps[:length])
			}
			for thread := -1; thread <= len(p.Threads); thread++ {
				checkNoExecOf(t, "a step too many", p, append(append([][]int{}, steps...), []int{thread, 0}))
			}
			longest = max(longest, len(steps))
		}
	}
	if longest < 9 {
		t.Errorf("the longest list of steps has %d", longest)
	}
}

func TestExecOfAgainstViewPlay(t *testing.T) {
	made, none := 0, 0
	for _, p := range append(execExamples(), handOver(), programOf(fences(2)), programOf(threadOf(lockOf(0)), threadOf(unlockOf(0)))) {
		for _, steps := range stepsUpTo(3, len(p.Threads), 2) {
			s, ok := impl.ViewPlay(p, steps)
			for thread, stmts := range p.Threads {
				ok = ok && s.State.At[thread] == len(stmts)
			}
			if ok && impl.SimpleOk(p) {
				checkExecOf(t, p, steps)
				made++
			} else {
				checkNoExecOf(t, "what ViewPlay can not do, or leaves undone", p, steps)
				none++
			}
		}
	}
	if made < 20 || none < 10000 {
		t.Errorf("%d lists of steps make executions, and %d make none", made, none)
	}
}

// roomySimple returns a simple program whose threads lie in one array with room between, and that array.
func roomySimple() (impl.Program, []impl.Stmt) {
	array := threadOf(
		storeTo(0, 1), addOf(0), fences(1)[0], fences(1)[0],
		strong(loadInto(0, 0)), sumInto(1, 0), fences(1)[0],
		skipOver(0, 1), swapAt(0, 2), fences(1)[0],
	)
	threads := make([][]impl.Stmt, 0, 5)
	threads = append(threads, array[0:2], array[4:6], array[7:9])
	return impl.Program{Threads: threads}, array
}

// roomyExec is an execution of the roomy program whose lists lie in arrays with room between and behind, and these arrays.
type roomyExec struct {
	e       impl.Exec
	numbers []int
	mods    [][]int
}

func roomyExecOf() *roomyExec {
	r := &roomyExec{mods: make([][]int, 5)}
	r.numbers = []int{0, 0, 1, 2, 1, 7, 7, -1, 0, 1, -1, -1, 7, 7, 0, 1, 7, 4, 7, 7, 7}
	copy(r.mods, [][]int{r.numbers[14:16], r.numbers[17:18], r.numbers[20:20]})
	r.e = impl.Exec{Order: r.numbers[0:5], From: r.numbers[7:12], Mods: r.mods[0:3]}
	return r
}

// check fails the test if a roomy execution, its arrays, or the roomy program are not as they were.
func (r *roomyExec) check(t *testing.T, name string, p impl.Program, stmts []impl.Stmt) {
	t.Helper()
	freshProgram, freshStmts := roomySimple()
	checkRoomy(t, name, p, stmts, freshProgram, freshStmts)
	fresh := roomyExecOf()
	if !sameExec(r.e, fresh.e) || !sameNumbers(r.numbers, fresh.numbers) || !sameOrderLists(r.mods, fresh.mods) {
		t.Errorf("%s has changed an execution: %v", name, *r)
	}
}

// spoilExec writes into all lists of an execution, up to where their room ends, and fails the test if a list changes with another one.
func spoilExec(t *testing.T, name string, e impl.Exec) {
	t.Helper()
	checkOwnLists(t, name, append([][]int{e.Order, e.From}, e.Mods...))
	room := e.Mods[:cap(e.Mods)]
	for i := range room {
		room[i] = []int{99}
	}
}

func TestWhatIsAskedOfExecutionsIsNewMemory(t *testing.T) {
	p, stmts := roomySimple()
	r := roomyExecOf()
	told, ok := plainTold(p, r.e)
	if !ok || !impl.ExecOk(p, r.e) || !impl.Coherent(p, r.e) || !impl.SimpleOk(p) {
		t.Fatalf("%v is no coherent execution", r.e)
	}
	r.check(t, "SimpleOk, ExecOk or Coherent", p, stmts)
	rows := impl.Happens(p, r.e)
	other := impl.Happens(p, r.e)
	checkOwnRows(t, "Happens", rows)
	if !sameRows(other, plainHappens(told)) || !sameRows(impl.Happens(p, r.e), plainHappens(told)) {
		t.Errorf("two answers of Happens share memory: %v", other)
	}
	r.check(t, "Happens, or writing to what it returned,", p, stmts)
	want := plainExecOutcome(p, told, r.e.Mods)
	o, _ := impl.ExecOutcome(p, r.e)
	again, _ := impl.ExecOutcome(p, r.e)
	spoil(t, "ExecOutcome", []impl.Outcome{o})
	if last, _ := impl.ExecOutcome(p, r.e); !sameOutcome(again, want) || !sameOutcome(last, want) {
		t.Errorf("two answers of ExecOutcome share memory: %v, %v", again, last)
	}
	r.check(t, "ExecOutcome, or writing to what it returned,", p, stmts)
}

func TestExecOfReturnsNewMemory(t *testing.T) {
	p, stmts := roomySimple()
	// The skip of the last thread passes over its swap.
	array := []int{0, 0, 7, 0, 1, 7, 1, 2, 7, 2, 0, 7, 1, 0, 7}
	steps := make([][]int, 0, 10)
	for at := 0; at < len(array); at += 3 {
		steps = append(steps, array[at:at+2])
	}
	fresh := append([]int{}, array...)
	e, ok := impl.ExecOf(p, steps)
	want := checkExecOf(t, p, copiedLists(steps))
	other, _ := impl.ExecOf(p, steps)
	spoilExec(t, "ExecOf", e)
	if last, _ := impl.ExecOf(p, steps); !ok || !sameExec(other, want) || !sameExec(last, want) {
		t.Errorf("ExecOf = %v, or two answers share memory: %v, %v", ok, other, last)
	}
	if !sameNumbers(array, fresh) || len(steps[:10][9]) != 0 {
		t.Errorf("ExecOf has changed its steps: %v", array)
	}
	roomyExecOf().check(t, "ExecOf, or writing to what it returned,", p, stmts)
	for _, p := range execExamples() {
		d := &draw{112}
		steps := drawnViewSteps(p, d)
		want := copiedExec(checkExecOf(t, p, steps))
		e, _ := impl.ExecOf(p, steps)
		spoilExec(t, "ExecOf", e)
		if again, _ := impl.ExecOf(p, steps); !sameExec(again, want) {
			t.Errorf("ExecOf keeps what it returns: %v, want %v", again, want)
		}
	}
}

func TestExecOutcomesReturnNewMemory(t *testing.T) {
	fresh := execExamples()
	for i, p := range execExamples() {
		list, _ := impl.ExecOutcomes(p)
		other, _ := impl.ExecOutcomes(p)
		want := viewWalkOf(p).outcomes.outcomes
		spoil(t, "ExecOutcomes", list)
		if last, _ := impl.ExecOutcomes(p); !sameOutcomes(other, want) || !sameOutcomes(last, want) {
			t.Errorf("two answers share memory: %v, %v", other, last)
		}
		if !sameProgram(p, fresh[i]) {
			t.Errorf("ExecOutcomes has changed %v", p)
		}
	}
	p, stmts := roomySimple()
	list, _ := impl.ExecOutcomes(p)
	spoil(t, "ExecOutcomes", list)
	roomyExecOf().check(t, "ExecOutcomes, or writing to what it returned,", p, stmts)
}
