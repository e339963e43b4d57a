package tests

import (
	"testing"

	"loop.example/wholethreads/impl"
)

// Short names of statements, all of numbers that the tests hang on alone.

func storeOf(place int) impl.Stmt { return impl.Stmt{Kind: impl.StStore, A: place, B: -1, C: 1} }

func loadOf(place int) impl.Stmt { return impl.Stmt{Kind: impl.StLoad, A: 0, B: place} }

func addOf(place int) impl.Stmt { return impl.Stmt{Kind: impl.StAdd, A: 0, B: place, C: 1} }

func lockOf(lock int) impl.Stmt { return impl.Stmt{Kind: impl.StLock, A: lock} }

func unlockOf(lock int) impl.Stmt { return impl.Stmt{Kind: impl.StUnlock, A: lock} }

func sendTo(channel int) impl.Stmt { return impl.Stmt{Kind: impl.StSend, A: channel, B: -1, C: 1} }

func getFrom(channel int) impl.Stmt { return impl.Stmt{Kind: impl.StGet, A: 1, B: channel} }

func skipOver(r int, count int) impl.Stmt { return impl.Stmt{Kind: impl.StSkip, A: r, B: count} }

// threadOf returns a thread of statements.
func threadOf(stmts ...impl.Stmt) []impl.Stmt { return stmts }

// handOn returns a thread that stores at the place 0 and sends, one that gets and sends on, and one that gets and loads.
func handOn() impl.Program {
	return programOf(
		threadOf(storeOf(0), sendTo(0)),
		threadOf(getFrom(0), sendTo(1)),
		threadOf(getFrom(1), loadOf(0)),
	)
}

// handBack returns a thread that stores behind its second send, and one that stores ahead of the get that makes room for it.
func handBack() impl.Program {
	return programOf(threadOf(sendTo(0), sendTo(0), storeOf(0)), threadOf(storeOf(0), getFrom(0)))
}

// getsInTurn returns a thread that sends twice, one that stores ahead of its get, and one that loads behind its own: they race if the latter gets first.
func getsInTurn() impl.Program {
	return programOf(threadOf(sendTo(0), sendTo(0)), threadOf(storeOf(0), getFrom(0)), threadOf(getFrom(0), loadOf(0)))
}

// toldTwice returns a thread that stores and sends twice, and two that each get and load.
func toldTwice() impl.Program {
	told := threadOf(getFrom(0), loadOf(0))
	return programOf(threadOf(storeOf(0), sendTo(0), sendTo(0)), told, told)
}

// locksInTurn returns a thread that stores ahead of its lock, and one that loads behind its own: they race if the latter locks first.
func locksInTurn() impl.Program {
	return programOf(threadOf(storeOf(0), lockOf(0), unlockOf(0)), threadOf(lockOf(0), unlockOf(0), loadOf(0)))
}

// keptLocks returns two threads that each take a lock, store, and never let it free.
func keptLocks() impl.Program {
	keeps := threadOf(lockOf(0), storeOf(0))
	return programOf(keeps, keeps)
}

// otherLocks returns two threads that store at one place with two locks.
func otherLocks() impl.Program {
	return programOf(
		threadOf(lockOf(0), storeOf(0), unlockOf(0)),
		threadOf(lockOf(1), storeOf(0), unlockOf(1)),
	)
}

// skippedLock returns a thread that stores with a lock, and one that passes over its lock unless the first one has told it not to.
func skippedLock() impl.Program {
	return programOf(
		threadOf(storeOf(1), lockOf(0), storeOf(0), unlockOf(0)),
		threadOf(loadOf(1), skipOver(0, 1), lockOf(0), storeOf(0)),
	)
}

// skippedStore returns a thread that stores with a lock, and one that passes over its own store with it unless the first one has told it not to.
func skippedStore() impl.Program {
	return programOf(
		threadOf(storeOf(1), lockOf(0), storeOf(0), unlockOf(0)),
		threadOf(loadOf(1), skipOver(0, 3), lockOf(0), storeOf(0), unlockOf(0)),
	)
}

// guardPrograms returns programs of all that locks, channels and races hang on.
func guardPrograms() []impl.Program {
	never := threadOf(getFrom(1), storeOf(2))
	return []impl.Program{
		handOn(), handBack(), getsInTurn(), toldTwice(), locksInTurn(), keptLocks(), otherLocks(), skippedLock(), skippedStore(),
		programOf(never, never), programOf(never, storeAt(2)), programOf(nil, storeAt(1)), programOf(threadOf(loadOf(2)), threadOf(loadOf(2))),
		programOf(threadOf(lockOf(0), storeOf(0), unlockOf(0), storeOf(0)), threadOf(lockOf(0), loadOf(0))),
		programOf(threadOf(lockOf(0), lockOf(1), addOf(2), unlockOf(1)), threadOf(lockOf(1), addOf(2), unlockOf(1))),
		programOf(threadOf(lockOf(1), addOf(0), unlockOf(1)), threadOf(lockOf(1), addOf(0), unlockOf(1)), threadOf(lockOf(1), loadOf(0))),
	}
}

// blocks returns pieces of threads: with what they wait for, and without.
func blocks() [][]impl.Stmt {
	return [][]impl.Stmt{
		threadOf(storeOf(0)), threadOf(loadOf(0)), threadOf(addOf(1)),
		threadOf(sendTo(0)), threadOf(getFrom(0)), threadOf(sendTo(0), storeOf(0)), threadOf(getFrom(0), storeOf(0)), threadOf(loadOf(1), sendTo(0)),
		threadOf(lockOf(0), storeOf(0), unlockOf(0)), threadOf(lockOf(0), loadOf(0), unlockOf(0)), threadOf(lockOf(0), addOf(1), unlockOf(0)),
		threadOf(lockOf(1), addOf(1), unlockOf(1)), threadOf(lockOf(0), unlockOf(0)), threadOf(lockOf(0), storeOf(0)),
		threadOf(skipOver(0, 1)), threadOf(skipOver(1, 2)), threadOf(sendTo(1)), threadOf(getFrom(1)),
	}
}

// blockProgram returns a program of so many threads, each of some drawn blocks, and a number from which the next one goes on.
func blockProgram(threads int, each int, seed uint32) (impl.Program, uint32) {
	p := impl.Program{}
	total := 0
	for range threads {
		list := []impl.Stmt{}
		for range each {
			seed = seed*1664525 + 1013904223
			block := blocks()[int(seed>>8)%len(blocks())]
			if len(list)+len(block) <= 6 && total+len(block) <= 9 {
				list = append(list, block...)
				total += len(block)
			}
		}
		p.Threads = append(p.Threads, list)
	}
	return p, seed
}

// blockPrograms returns programs of blocks.
func blockPrograms() []impl.Program {
	list := []impl.Program{}
	seed := uint32(5)
	p := impl.Program{}
	for threads := 2; threads <= 3; threads++ {
		for each := 1; each <= 4; each++ {
			for range 120 {
				p, seed = blockProgram(threads, each, seed)
				list = append(list, p)
			}
		}
	}
	return list
}

// allPrograms returns all programs that are held against the plain telling.
func allPrograms() []impl.Program {
	list := append(fewPrograms(), guardPrograms()...)
	list = append(list, mixedPrograms()...)
	return append(list, blockPrograms()...)
}

// sameRows reports whether two lists have the same rows of flags.
func sameRows(a [][]bool, b [][]bool) bool {
	if len(a) != len(b) {
		return false
	}
	for i := range a {
		if !sameFlags(a[i], b[i]) {
			return false
		}
	}
	return true
}

// pairsIn returns the pairs of indexes at which rows are true.
func pairsIn(rows [][]bool) [][]int {
	list := [][]int{}
	for i, row := range rows {
		for k, is := range row {
			if is {
				list = append(list, []int{i, k})
			}
		}
	}
	return list
}

func TestBeforeExamples(t *testing.T) {
	cases := []struct {
		name  string
		p     impl.Program
		order []int
		want  [][]int
	}{
		{"nothing", handOn(), nil, [][]int{}},
		{"nothing of no statements", programOf(nil), []int{}, [][]int{}},
		{"one event", handOn(), []int{0}, [][]int{}},
		{"one thread", programOf(fences(3)), []int{0, 0, 0}, [][]int{{0, 1}, {0, 2}, {1, 2}}},
		{"what conflicts only", programOf(storeAt(0), storeAt(0)), []int{1, 0}, [][]int{}},
		{"a send and a get", programOf(threadOf(sendTo(0)), threadOf(getFrom(0))), []int{0, 1}, [][]int{{0, 1}}},
		{"a get, and the send for which it makes room", programOf(threadOf(sendTo(0)), threadOf(sendTo(0)), threadOf(getFrom(0))), []int{0, 2, 1}, [][]int{{0, 1}, {0, 2}, {1, 2}}},
		{"two channels", programOf(threadOf(sendTo(0)), threadOf(sendTo(1)), threadOf(getFrom(1))), []int{1, 0, 2}, [][]int{{0, 2}}},
		{"two channels of one thread", programOf(threadOf(sendTo(0), sendTo(1)), threadOf(getFrom(1))), []int{0, 0, 1}, [][]int{{0, 1}, {0, 2}, {1, 2}}},
		{"an unlock and a lock", programOf(threadOf(lockOf(1), unlockOf(1)), threadOf(lockOf(1))), []int{0, 0, 1}, [][]int{{0, 1}, {0, 2}, {1, 2}}},
		{"an unlock, and a lock of another lock", programOf(threadOf(lockOf(1), unlockOf(1)), threadOf(lockOf(0))), []int{0, 0, 1}, [][]int{{0, 1}}},
		{"a lock and a lock of another lock", programOf(threadOf(lockOf(1)), threadOf(lockOf(0))), []int{0, 1}, [][]int{}},
		{"a lock and a channel of one number", programOf(threadOf(lockOf(0), unlockOf(0)), threadOf(sendTo(0))), []int{0, 0, 1}, [][]int{{0, 1}}},
		{"a channel and a lock of one number", programOf(threadOf(sendTo(1)), threadOf(lockOf(1))), []int{0, 1}, [][]int{}},
		{"a chain through a third thread", handOn(), []int{0, 0, 1, 1, 2, 2}, [][]int{{0, 1}, {0, 2}, {0, 3}, {0, 4}, {0, 5}, {1, 2}, {1, 3}, {1, 4}, {1, 5}, {2, 3}, {2, 4}, {2, 5}, {3, 4}, {3, 5}, {4, 5}}},
		{"a chain that is not whole", handOn(), []int{0, 0, 1}, [][]int{{0, 1}, {0, 2}, {1, 2}}},
		{"two gets of one send each", twoSendsTwoGets(), []int{0, 2, 0, 1}, [][]int{{0, 1}, {0, 2}, {0, 3}, {1, 2}, {1, 3}, {2, 3}}},
		{"what is behind a get, and the get of another thread", toldTwice(), []int{0, 0, 1, 1, 0, 2, 2}, [][]int{{0, 1}, {0, 2}, {0, 3}, {0, 4}, {0, 5}, {0, 6}, {1, 2}, {1, 3}, {1, 4}, {1, 5}, {1, 6}, {2, 3}, {2, 4}, {2, 5}, {2, 6}, {4, 5}, {4, 6}, {5, 6}}},
		{"fences of two threads", programOf(fences(1), fences(1)), []int{0, 1}, [][]int{}},
	}
	for _, c := range cases {
		rows, ok := impl.Before(c.p, c.order)
		if !ok || len(rows) != len(c.order) || !sameOrderLists(pairsIn(rows), c.want) {
			t.Errorf("%s: Before = %v, %v, want %v", c.name, rows, ok, c.want)
		}
		for _, row := range rows {
			if len(row) != len(c.order) {
				t.Errorf("%s: Before = %v", c.name, rows)
			}
		}
	}
}

// checkBefore fails the test if what happens before, or races, in an order of a program, whole or not, is not what a search for chains tells.
func checkBefore(t *testing.T, p impl.Program) {
	t.Helper()
	for _, order := range plainOrdersOf(p).all {
		events, _, _ := plainEvents(p, order)
		want := plainBefore(events)
		if rows, ok := impl.Before(p, order); !ok || !sameRows(rows, want) {
			t.Errorf("Before(%v, %v) = %v, %v, want %v", p, order, rows, ok, want)
		}
		races := plainRaces(events)
		if list, ok := impl.RacesOf(p, order); !ok || !sameOrderLists(list, races) {
			t.Errorf("RacesOf(%v, %v) = %v, %v, want %v", p, order, list, ok, races)
		}
	}
}

func TestBeforeAgainstChains(t *testing.T) {
	for _, p := range allPrograms() {
		checkBefore(t, p)
	}
}

func TestBeforeOfAllPairsOfShortThreads(t *testing.T) {
	threads := shortThreads([]impl.Stmt{loadOf(0), addOf(0), lockOf(0), unlockOf(0), sendTo(0), getFrom(0), storeOf(1)})
	for _, a := range threads {
		for _, b := range threads {
			checkBefore(t, programOf(a, b))
			checkBefore(t, programOf(a, b, threadOf(sendTo(0), getFrom(0))))
		}
	}
}

func TestRacesOfExamples(t *testing.T) {
	swap := impl.Stmt{Kind: impl.StSwap, A: 0, B: 0, C: 1}
	strongStore := impl.Stmt{Kind: impl.StStore, A: 0, B: -1, C: 1, Strong: true}
	strongLoad := impl.Stmt{Kind: impl.StLoad, A: 0, B: 0, Strong: true}
	cases := []struct {
		name  string
		p     impl.Program
		order []int
		want  [][]int
	}{
		{"nothing", lostUpdate(), nil, nil},
		{"a store and a load", programOf(storeAt(0), threadOf(loadOf(0))), []int{0, 1}, [][]int{{0, 1}}},
		{"a load and a store", programOf(storeAt(0), threadOf(loadOf(0))), []int{1, 0}, [][]int{{0, 1}}},
		{"two loads", programOf(threadOf(loadOf(0)), threadOf(loadOf(0))), []int{0, 1}, nil},
		{"two adds", programOf(threadOf(addOf(0)), threadOf(addOf(0))), []int{0, 1}, [][]int{{0, 1}}},
		{"a swap and a load", programOf(threadOf(swap), threadOf(loadOf(0))), []int{0, 1}, [][]int{{0, 1}}},
		{"a strong store and a strong load", programOf(threadOf(strongStore), threadOf(strongLoad)), []int{0, 1}, [][]int{{0, 1}}},
		{"two places", programOf(storeAt(0), storeAt(1)), []int{0, 1}, nil},
		{"one thread", programOf(threadOf(storeOf(0), loadOf(0))), []int{0, 0}, nil},
		{"a lock of one number", programOf(storeAt(0), threadOf(lockOf(0))), []int{0, 1}, nil},
		{"two updates one behind the other", lostUpdate(), []int{0, 0, 1, 1}, [][]int{{0, 3}, {1, 2}, {1, 3}}},
		{"two updates at once", lostUpdate(), []int{1, 0, 1, 0}, [][]int{{0, 3}, {1, 2}, {2, 3}}},
		{"a beginning of two updates", lostUpdate(), []int{0, 1, 0}, [][]int{{1, 2}}},
		{"under a lock", guardedAdds(), []int{1, 1, 1, 0, 0, 0}, nil},
		{"a load whose thread locks later", locksInTurn(), []int{0, 0, 0, 1, 1, 1}, nil},
		{"a load whose thread locks first", locksInTurn(), []int{1, 1, 0, 1, 0, 0}, [][]int{{2, 3}}},
		{"what is sent on", handOn(), []int{0, 0, 1, 1, 2, 2}, nil},
		{"room for a send", handBack(), []int{0, 1, 1, 0, 0}, nil},
		{"the get of the one that stored is first", getsInTurn(), []int{0, 1, 1, 0, 2, 2}, nil},
		{"the get of the one that stored is second", getsInTurn(), []int{0, 1, 2, 0, 1, 2}, [][]int{{1, 5}}},
		{"two that were told", toldTwice(), []int{0, 0, 1, 0, 2, 2, 1}, nil},
		{"each of three", programOf(storeAt(2), storeAt(2), storeAt(2)), []int{2, 0, 1}, [][]int{{0, 1}, {0, 2}, {1, 2}}},
	}
	for _, c := range cases {
		if list, ok := impl.RacesOf(c.p, c.order); !ok || !sameOrderLists(list, c.want) {
			t.Errorf("%s: RacesOf(%v) = %v, %v, want %v", c.name, c.order, list, ok, c.want)
		}
	}
}

// checkNothingBefore fails the test if there is an answer about an order that is none.
func checkNothingBefore(t *testing.T, p impl.Program, order []int) {
	t.Helper()
	if rows, ok := impl.Before(p, order); ok || len(rows) != 0 {
		t.Errorf("Before(%v, %v) = %v, %v", p, order, rows, ok)
	}
	if list, ok := impl.RacesOf(p, order); ok || len(list) != 0 {
		t.Errorf("RacesOf(%v, %v) = %v, %v", p, order, list, ok)
	}
}

// attempt is a program, and threads that may be an order of it.
type attempt struct {
	p     impl.Program
	order []int
}

// noOrders returns attempts that are no orders: with threads that there are not, that are done, or that have to wait.
func noOrders() []attempt {
	list := []attempt{
		{handOn(), []int{1}},
		{handOn(), []int{0, 0, 1, 1, 1}},
		{keptLocks(), []int{0, 0, 1}},
		{toldTwice(), []int{0, 0, 1, 2}},
		{programOf(threadOf(unlockOf(0))), []int{0}},
	}
	for _, p := range append(guardPrograms(), threadedPrograms()...) {
		for _, thread := range noThreads(len(p.Threads)) {
			list = append(list, attempt{p, []int{thread}}, attempt{p, []int{0, thread}}, attempt{p, []int{thread, 0}})
		}
		list = append(list, attempt{p, make([]int, 7)}, attempt{p, make([]int, 100000)})
	}
	for _, p := range append(fewPrograms(), guardPrograms()...) {
		for _, order := range ordersUpTo(4, len(p.Threads)) {
			if _, _, can := plainEvents(p, order); !can {
				list = append(list, attempt{p, order})
			}
		}
	}
	return list
}

func TestBeforeOfWhatIsNoOrder(t *testing.T) {
	for _, none := range noOrders() {
		checkNothingBefore(t, none.p, none.order)
	}
}

// checkRacy fails the test if a program's first order that has races, or the places of its races in any order, are not those of all whole orders.
func checkRacy(t *testing.T, p impl.Program) {
	t.Helper()
	want := plainRacyOf(p)
	if order, ok := impl.RaceOrder(p); ok != want.races || !sameNumbers(order, want.order) {
		t.Errorf("RaceOrder(%v) = %v, %v, want %v, %v", p, order, ok, want.order, want.races)
	}
	if impl.RaceFree(p) == want.races {
		t.Errorf("RaceFree(%v) = %v", p, want.races)
	}
	if places, ok := impl.Racy(p); !ok || !sameFlags(places, want.places) {
		t.Errorf("Racy(%v) = %v, %v, want %v", p, places, ok, want.places)
	}
}

// checkGuards fails the test if a program's locks are not those that all whole orders tell, or if it is guarded and races.
func checkGuards(t *testing.T, p impl.Program) {
	t.Helper()
	want := plainGuards(p)
	if guards, ok := impl.Guards(p); !ok || !sameRows(guards, want) {
		t.Errorf("Guards(%v) = %v, %v, want %v", p, guards, ok, want)
	}
	guarded := impl.Guarded(p)
	if guarded != plainGuarded(p) {
		t.Errorf("Guarded(%v) = %v", p, guarded)
	}
	if guarded && !impl.RaceFree(p) {
		t.Errorf("%v is guarded, and races", p)
	}
}

func TestRacyAndGuardsAgainstAllOrders(t *testing.T) {
	guarded, free := 0, 0
	programs := allPrograms()
	for _, p := range programs {
		checkRacy(t, p)
		checkGuards(t, p)
		if impl.RaceFree(p) {
			free++
		}
		if impl.Guarded(p) {
			guarded++
		}
	}
	if guarded < 100 || free-guarded < 100 || len(programs)-free < 100 {
		t.Errorf("%d programs are guarded, %d free of races, of %d", guarded, free, len(programs))
	}
}

func TestRacyAndGuardsOfAllPairsOfShortThreads(t *testing.T) {
	threads := shortThreads([]impl.Stmt{loadOf(0), addOf(0), lockOf(0), unlockOf(0), sendTo(0), getFrom(0), skipOver(0, 1)})
	for _, a := range threads {
		for _, b := range threads {
			p := programOf(a, b)
			checkRacy(t, p)
			checkGuards(t, p)
			q := programOf(append(threadOf(lockOf(0)), a...), append(threadOf(lockOf(0)), b...))
			checkRacy(t, q)
			checkGuards(t, q)
		}
	}
}

func TestRacyAndGuardsOfTheLargestPrograms(t *testing.T) {
	adds := threadOf(addOf(0), addOf(1), addOf(2))
	locked := threadOf(lockOf(1), addOf(2), unlockOf(1))
	for _, p := range []impl.Program{
		programOf(adds, adds, adds),
		programOf(locked, locked, locked),
		programOf(adds, locked, fences(3)),
		programOf(threadOf(addOf(0), loadOf(0), loadOf(0)), threadOf(loadOf(0), loadOf(0), loadOf(0)), threadOf(loadOf(0), loadOf(0), loadOf(0))),
		programOf(threadOf(sendTo(0), sendTo(0), storeOf(2)), threadOf(getFrom(0), storeOf(1), loadOf(2)), threadOf(getFrom(0), loadOf(1), loadOf(2))),
	} {
		checkRacy(t, p)
		checkGuards(t, p)
	}
}

func TestRacyExamples(t *testing.T) {
	nowhere := []bool{false, false, false}
	cases := []struct {
		name   string
		p      impl.Program
		order  []int
		places []bool
	}{
		{"a thread without statements", programOf(nil), nil, nowhere},
		{"threads without statements", programOf(nil, nil, nil), nil, nowhere},
		{"one thread", programOf(threadOf(storeOf(0), loadOf(0))), nil, nowhere},
		{"two loads", programOf(threadOf(loadOf(1)), threadOf(loadOf(1))), nil, nowhere},
		{"stores at two places", programOf(storeAt(0), storeAt(1)), nil, nowhere},
		{"stores at the last place", programOf(nil, storeAt(2), storeAt(2)), []int{1, 2}, []bool{false, false, true}},
		{"stores and loads at two places", storesAndLoads(), []int{0, 0, 1, 1}, []bool{true, true, false}},
		{"a store that is told of", programOf(threadOf(storeOf(0), sendTo(0)), threadOf(getFrom(0), loadOf(0))), nil, nowhere},
		{"a store that is told of later", programOf(threadOf(sendTo(0), storeOf(0)), threadOf(getFrom(0), loadOf(0))), []int{0, 0, 1, 1}, []bool{true, false, false}},
		{"a store that is sent on", handOn(), nil, nowhere},
		{"room for a send", handBack(), nil, nowhere},
		{"two that are told", toldTwice(), nil, nowhere},
		{"two that are told, and store", programOf(threadOf(sendTo(0), sendTo(0)), threadOf(getFrom(0), storeOf(1)), threadOf(getFrom(0), storeOf(1))), []int{0, 1, 0, 1, 2, 2}, []bool{false, true, false}},
		{"two gets in turn", getsInTurn(), []int{0, 1, 2, 0, 1, 2}, []bool{true, false, false}},
		{"two locks in turn", locksInTurn(), []int{0, 1, 1, 0, 0, 1}, []bool{true, false, false}},
		{"locks that are never let free", keptLocks(), nil, nowhere},
		{"two locks", otherLocks(), []int{0, 0, 0, 1, 1, 1}, []bool{true, false, false}},
		{"a lock of one of both", programOf(threadOf(lockOf(0), storeOf(0), unlockOf(0)), storeAt(0)), []int{0, 0, 0, 1}, []bool{true, false, false}},
		{"a store that is never done", programOf(threadOf(getFrom(0), storeOf(0)), storeAt(0)), nil, nowhere},
		{"a store that is passed over", programOf(threadOf(skipOver(0, 1), storeOf(0)), storeAt(0)), nil, nowhere},
		{"a place where events race in the first order alone", programOf(threadOf(storeOf(1), storeOf(0)), threadOf(loadOf(0), skipOver(0, 1), addOf(1))), []int{0, 0, 1, 1, 1}, []bool{true, true, false}},
		{"a place where events race in the last order alone", programOf(threadOf(loadOf(0), skipOver(0, 1), addOf(1)), threadOf(storeOf(1), storeOf(0))), []int{0, 0, 1, 1}, []bool{true, true, false}},
	}
	for _, c := range cases {
		order, races := impl.RaceOrder(c.p)
		if races != (c.order != nil) || !sameNumbers(order, c.order) {
			t.Errorf("%s: RaceOrder = %v, %v, want %v", c.name, order, races, c.order)
		}
		if impl.RaceFree(c.p) != (c.order == nil) {
			t.Errorf("%s: RaceFree = %v", c.name, c.order != nil)
		}
		if places, ok := impl.Racy(c.p); !ok || !sameFlags(places, c.places) {
			t.Errorf("%s: Racy = %v, %v, want %v", c.name, places, ok, c.places)
		}
	}
}

func TestGuardsExamples(t *testing.T) {
	none, first, second, both := []bool{false, false}, []bool{true, false}, []bool{false, true}, []bool{true, true}
	never := threadOf(getFrom(1), storeOf(2))
	cases := []struct {
		name    string
		p       impl.Program
		want    [][]bool
		guarded bool
	}{
		{"a thread without statements", programOf(nil), [][]bool{both, both, both}, true},
		{"threads without statements", programOf(nil, nil, nil), [][]bool{both, both, both}, true},
		{"locks without places", crossedLocks(), [][]bool{both, both, both}, true},
		{"one thread without a lock", programOf(threadOf(storeOf(0))), [][]bool{none, both, both}, true},
		{"one thread with a lock", programOf(threadOf(lockOf(1), storeOf(0))), [][]bool{second, both, both}, true},
		{"a place of each thread", programOf(storeAt(0), storeAt(2)), [][]bool{none, both, none}, true},
		{"loads alone", programOf(threadOf(loadOf(1)), threadOf(loadOf(1)), threadOf(loadOf(1))), [][]bool{both, none, both}, true},
		{"a store and a load", programOf(storeAt(1), threadOf(loadOf(1))), [][]bool{both, none, both}, false},
		{"adds with a lock", guardedAdds(), [][]bool{both, both, second}, true},
		{"two locks", otherLocks(), [][]bool{none, both, both}, false},
		{"both locks, and one of them", programOf(threadOf(lockOf(0), lockOf(1), addOf(0)), threadOf(lockOf(1), addOf(0))), [][]bool{second, both, both}, true},
		{"both locks always", programOf(threadOf(lockOf(0), lockOf(1), addOf(0)), threadOf(lockOf(0), lockOf(1), addOf(0))), [][]bool{both, both, both}, true},
		{"a lock for each place", programOf(threadOf(lockOf(0), addOf(0), unlockOf(0), lockOf(1), addOf(1), unlockOf(1)), threadOf(lockOf(1), loadOf(1))), [][]bool{first, second, both}, true},
		{"a place behind an unlock", programOf(threadOf(lockOf(0), addOf(0), unlockOf(0), addOf(0)), threadOf(lockOf(0), addOf(0))), [][]bool{none, both, both}, false},
		{"the lock of another thread", programOf(threadOf(lockOf(0)), storeAt(0), threadOf(loadOf(0))), [][]bool{none, both, both}, false},
		{"locks that are never let free", keptLocks(), [][]bool{first, both, both}, true},
		{"a lock that is passed over in some orders", skippedLock(), [][]bool{none, none, both}, false},
		{"a store that is passed over in some orders", skippedStore(), [][]bool{first, none, both}, false},
		{"statements that are never done", programOf(never, never), [][]bool{both, both, both}, true},
		{"one that is never done, and one that is", programOf(never, storeAt(2)), [][]bool{both, both, none}, false},
		{"one that is never done, and one with a lock", programOf(never, threadOf(lockOf(1), storeOf(2))), [][]bool{both, both, second}, true},
		{"a store behind a lock that the thread has", programOf(threadOf(lockOf(0), lockOf(0), storeOf(0)), threadOf(loadOf(0))), [][]bool{none, both, both}, false},
		{"told of, but without a lock", programOf(threadOf(storeOf(0), sendTo(0)), threadOf(getFrom(0), loadOf(0))), [][]bool{none, both, both}, false},
		{"a load with a lock, and one without", programOf(threadOf(lockOf(0), loadOf(0)), threadOf(loadOf(0))), [][]bool{none, both, both}, true},
		{"the last two threads", programOf(nil, storeAt(2), threadOf(loadOf(2))), [][]bool{both, both, none}, false},
		{"a thread that writes, and one that writes elsewhere", programOf(threadOf(storeOf(0), loadOf(1)), threadOf(loadOf(1), storeOf(2))), [][]bool{none, none, none}, true},
	}
	for _, c := range cases {
		if guards, ok := impl.Guards(c.p); !ok || !sameRows(guards, c.want) {
			t.Errorf("%s: Guards = %v, %v, want %v", c.name, guards, ok, c.want)
		}
		if impl.Guarded(c.p) != c.guarded {
			t.Errorf("%s: Guarded = %v", c.name, !c.guarded)
		}
	}
}

func TestBeforeOfWhatIsNoProgram(t *testing.T) {
	for _, p := range noPrograms() {
		for _, order := range [][]int{nil, {}, {0}, {1}, {-1}, {0, 0}} {
			checkNothingBefore(t, p, order)
		}
		if order, ok := impl.RaceOrder(p); ok || len(order) != 0 {
			t.Errorf("RaceOrder(%v) = %v, %v", p, order, ok)
		}
		if places, ok := impl.Racy(p); ok || len(places) != 0 {
			t.Errorf("Racy(%v) = %v, %v", p, places, ok)
		}
		if guards, ok := impl.Guards(p); ok || len(guards) != 0 {
			t.Errorf("Guards(%v) = %v, %v", p, guards, ok)
		}
		if impl.RaceFree(p) || impl.Guarded(p) {
			t.Errorf("%v is free of races: %v, or guarded: %v", p, impl.RaceFree(p), impl.Guarded(p))
		}
	}
}

// checkOwnRows writes into each row, up to where its room ends, and fails the test if another row changes.
func checkOwnRows(t *testing.T, name string, rows [][]bool) {
	t.Helper()
	for i, row := range rows {
		before := [][]bool{}
		for _, other := range rows {
			before = append(before, append([]bool{}, other...))
		}
		room := row[:cap(row)]
		for at := range room {
			room[at] = !room[at]
		}
		for k, other := range rows {
			if k != i && !sameFlags(other, before[k]) {
				t.Errorf("%s: the rows %d and %d share memory", name, i, k)
			}
		}
	}
	for i := range rows {
		rows[i] = nil
	}
}

func TestBeforeReturnsNewMemory(t *testing.T) {
	for _, p := range append(fewPrograms(), guardPrograms()...) {
		for _, order := range impl.Orders(p) {
			events, _, _ := plainEvents(p, order)
			rows, _ := impl.Before(p, order)
			races, _ := impl.RacesOf(p, order)
			checkOwnRows(t, "Before", rows)
			checkOwnLists(t, "RacesOf", races)
			again, ok := impl.Before(p, order)
			if !ok || !sameRows(again, plainBefore(events)) {
				t.Errorf("Before keeps what it returns: %v, %v", again, ok)
			}
			if list, ok := impl.RacesOf(p, order); !ok || !sameOrderLists(list, plainRaces(events)) {
				t.Errorf("RacesOf keeps what it returns: %v, %v", list, ok)
			}
		}
	}
}

func TestRacyAndGuardsReturnNewMemory(t *testing.T) {
	for _, p := range append(fewPrograms(), guardPrograms()...) {
		order, _ := impl.RaceOrder(p)
		otherOrder, _ := impl.RaceOrder(p)
		checkOwnLists(t, "RaceOrder", [][]int{order, otherOrder})
		places, _ := impl.Racy(p)
		otherPlaces, _ := impl.Racy(p)
		checkOwnRows(t, "Racy", [][]bool{places, otherPlaces})
		guards, _ := impl.Guards(p)
		checkOwnRows(t, "Guards", guards)
		checkRacy(t, p)
		checkGuards(t, p)
	}
}

func TestBeforeChangesNoArgument(t *testing.T) {
	p, stmts := roomyProgram()
	orders, array := roomyOrders()
	for _, order := range orders {
		rows, ok := impl.Before(p, order)
		races, played := impl.RacesOf(p, order)
		if !ok || !played {
			t.Fatalf("%v is no order: %v, %v", order, rows, races)
		}
		checkOwnRows(t, "Before", rows)
		checkOwnLists(t, "RacesOf", races)
		checkRoomyOrders(t, "Before, RacesOf, or writing to what they returned,", orders, array)
	}
	checkRacy(t, p)
	checkGuards(t, p)
	checkArgument(t, "what is asked of races", p, stmts)
	for i, p := range guardPrograms() {
		checkRacy(t, p)
		checkGuards(t, p)
		if !sameProgram(p, guardPrograms()[i]) {
			t.Errorf("what is asked of races has changed %v", p)
		}
	}
}
