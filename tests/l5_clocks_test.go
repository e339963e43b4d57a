package tests

import (
	"math"
	"testing"

	"loop.example/wholethreads/impl"
)

// someClocks returns lists of numbers of many lengths and sizes, also such as no order comes to.
func someClocks() [][]int {
	list := ordersUpTo(3, 1)
	for _, n := range []int{math.MinInt, -129, -128, 127, 128, 255, 256, 257, 1 << 40, math.MaxInt} {
		list = append(list, []int{n}, []int{0, n}, []int{n, 0}, []int{n, 1, n}, []int{0, 0, 0, n})
	}
	return append(list, make([]int, 100), append(make([]int, 99), 1), append(make([]int, 99), -1))
}

// greater returns the greater one of two numbers.
func greater(a int, b int) int {
	if a < b {
		return b
	}
	return a
}

func TestClockWithinExamples(t *testing.T) {
	cases := []struct {
		name string
		a    []int
		b    []int
		want bool
		back bool
	}{
		{"none and none", nil, nil, true, true},
		{"none and an empty one", nil, []int{}, true, true},
		{"none and a nought", nil, []int{0}, false, false},
		{"none and less than nought", nil, []int{-1}, false, false},
		{"noughts of other lengths", []int{0, 0}, []int{0, 0, 0}, false, false},
		{"the beginning of another one", []int{1, 2}, []int{1, 2, 0}, false, false},
		{"less, but of another length", []int{1}, []int{1, 2}, false, false},
		{"the same", []int{2, 0, 1}, []int{2, 0, 1}, true, true},
		{"less in the first number", []int{1, 2, 3}, []int{2, 2, 3}, true, false},
		{"less in the second number", []int{1, 1, 3}, []int{1, 2, 3}, true, false},
		{"less in the last number", []int{1, 2, 2}, []int{1, 2, 3}, true, false},
		{"less in all", []int{0, 1, 2}, []int{1, 2, 3}, true, false},
		{"less and greater", []int{0, 1}, []int{1, 0}, false, false},
		{"much less and a little greater", []int{0, 5, 1}, []int{9, 9, 0}, false, false},
		{"less than nought", []int{-1, 0}, []int{0, 0}, true, false},
		{"both less than nought", []int{-3}, []int{-2}, true, false},
		{"less and greater than nought", []int{-1, 1}, []int{1, -1}, false, false},
		{"what a byte does not hold", []int{255}, []int{256}, true, false},
		{"what is the same in a byte", []int{1, 0}, []int{257, 0}, true, false},
		{"the least and the greatest", []int{math.MinInt, 0}, []int{math.MaxInt, 0}, true, false},
		{"the greatest twice", []int{math.MaxInt, math.MaxInt}, []int{math.MaxInt, math.MaxInt}, true, true},
		{"one number", []int{4}, []int{5}, true, false},
		{"more numbers than threads", []int{0, 0, 0, 0, 1}, []int{0, 0, 0, 0, 2}, true, false},
	}
	for _, c := range cases {
		if impl.ClockWithin(c.a, c.b) != c.want {
			t.Errorf("%s: ClockWithin(%v, %v) = %v", c.name, c.a, c.b, !c.want)
		}
		if impl.ClockWithin(c.b, c.a) != c.back {
			t.Errorf("%s: ClockWithin(%v, %v) = %v", c.name, c.b, c.a, !c.back)
		}
	}
}

func TestClockJoinExamples(t *testing.T) {
	cases := []struct {
		name string
		a    []int
		b    []int
		want []int
		ok   bool
	}{
		{"none and none", nil, nil, nil, true},
		{"none and an empty one", nil, []int{}, nil, true},
		{"none and a nought", nil, []int{0}, nil, false},
		{"noughts of other lengths", []int{0, 0}, []int{0, 0, 0}, nil, false},
		{"the beginning of another one", []int{1, 2}, []int{1, 2, 3}, nil, false},
		{"the same", []int{2, 0, 1}, []int{2, 0, 1}, []int{2, 0, 1}, true},
		{"each the greater one once", []int{2, 0, 1}, []int{0, 3, 1}, []int{2, 3, 1}, true},
		{"one within the other", []int{1, 1, 1}, []int{1, 2, 3}, []int{1, 2, 3}, true},
		{"less than nought", []int{-1, -5}, []int{-2, 0}, []int{-1, 0}, true},
		{"both less than nought", []int{-7}, []int{-8}, []int{-7}, true},
		{"what a byte does not hold", []int{255, 256}, []int{256, 1}, []int{256, 256}, true},
		{"the least and the greatest", []int{math.MinInt, math.MaxInt, math.MinInt}, []int{math.MaxInt, math.MinInt, math.MinInt}, []int{math.MaxInt, math.MaxInt, math.MinInt}, true},
		{"one number", []int{4}, []int{5}, []int{5}, true},
		{"more numbers than threads", []int{0, 9, 0, 9, 0}, []int{8, 0, 8, 0, 8}, []int{8, 9, 8, 9, 8}, true},
	}
	for _, c := range cases {
		if clock, ok := impl.ClockJoin(c.a, c.b); ok != c.ok || !sameNumbers(clock, c.want) {
			t.Errorf("%s: ClockJoin(%v, %v) = %v, %v, want %v, %v", c.name, c.a, c.b, clock, ok, c.want, c.ok)
		}
		if clock, ok := impl.ClockJoin(c.b, c.a); ok != c.ok || !sameNumbers(clock, c.want) {
			t.Errorf("%s: ClockJoin(%v, %v) = %v, %v, want %v, %v", c.name, c.b, c.a, clock, ok, c.want, c.ok)
		}
	}
}

// checkPair fails the test if one clock is not within another one as their numbers tell, or if they are not joined number by number.
func checkPair(t *testing.T, a []int, b []int) {
	t.Helper()
	within, joined := len(a) == len(b), []int{}
	for i := 0; i < len(a) && len(a) == len(b); i++ {
		within = within && a[i] <= b[i]
		joined = append(joined, greater(a[i], b[i]))
	}
	if impl.ClockWithin(a, b) != within {
		t.Errorf("ClockWithin(%v, %v) = %v", a, b, !within)
	}
	if clock, ok := impl.ClockJoin(a, b); ok != (len(a) == len(b)) || !sameNumbers(clock, joined) {
		t.Errorf("ClockJoin(%v, %v) = %v, %v, want %v", a, b, clock, ok, joined)
	}
}

func TestClocksOfAllSizes(t *testing.T) {
	for _, a := range someClocks() {
		for _, b := range someClocks() {
			checkPair(t, a, b)
		}
	}
}

// clockLists returns the clocks of threads, locks and channels, one behind the other.
func clockLists(c impl.Clocks) [][]int {
	return append(append(append([][]int{}, c.Threads...), c.Locks...), c.Chans...)
}

// sameClocks reports whether two answers have the same clocks.
func sameClocks(a impl.Clocks, b impl.Clocks) bool {
	return sameOrderLists(a.Threads, b.Threads) && sameOrderLists(a.Locks, b.Locks) && sameOrderLists(a.Chans, b.Chans)
}

// countedClocks returns for each event of an order how many events of each thread are it, or happen before it.
func countedClocks(p impl.Program, order []int) [][]int {
	before, _ := impl.Before(p, order)
	clocks := noughtClocks(len(order), len(p.Threads))
	for i, thread := range order {
		for k := range order {
			if i == k || before[i][k] {
				clocks[k][thread]++
			}
		}
	}
	return clocks
}

// noughtClocks returns so many clocks of so many noughts.
func noughtClocks(count int, threads int) [][]int {
	clocks := [][]int{}
	for range count {
		clocks = append(clocks, make([]int, threads))
	}
	return clocks
}

// countedBehind returns the counted clocks of the last events of threads, locks that are let free, and channels.
func countedBehind(p impl.Program, order []int) impl.Clocks {
	events, _, _ := plainEvents(p, order)
	threads := len(p.Threads)
	behind := impl.Clocks{Threads: noughtClocks(threads, threads), Locks: noughtClocks(2, threads), Chans: noughtClocks(2, threads)}
	for k, clock := range countedClocks(p, order) {
		behind.Threads[order[k]] = clock
		switch s := events[k].Stmt; s.Kind {
		case 7:
			behind.Locks[s.A] = clock
		case 8:
			behind.Chans[s.A] = clock
		case 9:
			behind.Chans[s.B] = clock
		}
	}
	return behind
}

// leastSecond returns the least second one of some pairs, or -1.
func leastSecond(pairs [][]int) int {
	least := -1
	for _, pair := range pairs {
		if least == -1 || pair[1] < least {
			least = pair[1]
		}
	}
	return least
}

// checkWithin fails the test if, of two events of an order, the clock of the one is within that of the other one without happening before it, or the other way round.
func checkWithin(t *testing.T, p impl.Program, order []int, clocks [][]int) {
	t.Helper()
	before, _ := impl.Before(p, order)
	for i, a := range clocks {
		for k, b := range clocks {
			if i != k && impl.ClockWithin(a, b) != before[i][k] {
				t.Errorf("%v, %v: ClockWithin(%v, %v) of the events %d and %d = %v", p, order, a, b, i, k, !before[i][k])
			}
		}
	}
}

// checkOrderClocks fails the test if the clocks of an order are not what a count tells, or its first race is not that of RacesOf. It returns where that race is.
func checkOrderClocks(t *testing.T, p impl.Program, order []int) int {
	t.Helper()
	want := countedClocks(p, order)
	clocks, ok := impl.ClocksOf(p, order)
	if !ok || !sameOrderLists(clocks, want) {
		t.Fatalf("ClocksOf(%v, %v) = %v, %v, want %v", p, order, clocks, ok, want)
	}
	checkWithin(t, p, order, clocks)
	wantBehind := countedBehind(p, order)
	if behind, ok := impl.ClocksBehind(p, order); !ok || !sameClocks(behind, wantBehind) {
		t.Errorf("ClocksBehind(%v, %v) = %v, %v, want %v", p, order, behind, ok, wantBehind)
	}
	races, _ := impl.RacesOf(p, order)
	at := impl.RaceAt(p, order)
	if at != leastSecond(races) {
		t.Errorf("RaceAt(%v, %v) = %d, want %d of %v", p, order, at, leastSecond(races), races)
	}
	return at
}

// checkClocks holds all orders of a program, whole or not, against counts. It returns how many of them race, and how many do not.
func checkClocks(t *testing.T, p impl.Program) (int, int) {
	t.Helper()
	racing, free := 0, 0
	for _, order := range plainOrdersOf(p).all {
		if checkOrderClocks(t, p, order) == -1 {
			free++
		} else {
			racing++
		}
	}
	return racing, free
}

// readsApart returns two threads that load, of which one sends then, and one that gets, and stores: it does not know of the other load.
func readsApart() impl.Program {
	return programOf(threadOf(loadOf(0), sendTo(0)), threadOf(loadOf(0)), threadOf(getFrom(0), storeOf(0)))
}

// readsTold returns two threads that load and send, and one that gets from both, and stores.
func readsTold() impl.Program {
	return programOf(threadOf(loadOf(0), sendTo(0)), threadOf(loadOf(0), sendTo(1)), threadOf(getFrom(0), getFrom(1), storeOf(0)))
}

// readsInTurn returns a thread that loads and sends, one that gets, loads and sends on, and one that gets and stores.
func readsInTurn() impl.Program {
	return programOf(threadOf(loadOf(0), sendTo(0)), threadOf(getFrom(0), loadOf(0), sendTo(1)), threadOf(getFrom(1), storeOf(0)))
}

// readsGathered returns two threads that load, of which one is told of the other's load, loads again, and sends on, and one that gets and stores.
func readsGathered() impl.Program {
	return programOf(
		threadOf(loadOf(0), sendTo(0)),
		threadOf(loadOf(0), getFrom(0), loadOf(0), sendTo(1)),
		threadOf(getFrom(1), storeOf(0)),
	)
}

// readsAgain returns two threads that load and send, of which the first one loads again then, and one that gets from both, and stores.
func readsAgain() impl.Program {
	return programOf(
		threadOf(loadOf(0), sendTo(0), loadOf(0)),
		threadOf(loadOf(0), sendTo(1)),
		threadOf(getFrom(0), getFrom(1), storeOf(0)),
	)
}

// storeTold returns a thread that stores, sends and loads, one that gets and loads, and one that loads without being told.
func storeTold() impl.Program {
	return programOf(threadOf(storeOf(0), sendTo(0), loadOf(0)), threadOf(getFrom(0), loadOf(0)), threadOf(loadOf(0)))
}

// sendsUngot returns two threads that send to a channel from which no one gets, and one that does nothing.
func sendsUngot() impl.Program {
	return programOf(threadOf(storeOf(0), sendTo(1), loadOf(0)), threadOf(sendTo(1), storeOf(0)), nil)
}

// twoLocks returns two threads that each take both locks, one behind the other, and keep the second one.
func twoLocks() impl.Program {
	return programOf(threadOf(lockOf(0), unlockOf(0), lockOf(1)), threadOf(lockOf(1), unlockOf(1), lockOf(0)))
}

// clockPrograms returns programs of all that clocks hang on.
func clockPrograms() []impl.Program {
	return []impl.Program{
		readsApart(), readsTold(), readsInTurn(), readsGathered(), readsAgain(), storeTold(), sendsUngot(), twoLocks(),
		programOf(threadOf(loadOf(0)), threadOf(loadOf(0)), threadOf(loadOf(0), storeOf(0))),
		programOf(threadOf(loadOf(0), sendTo(0), loadOf(0)), threadOf(getFrom(0), storeOf(0))),
		programOf(threadOf(storeOf(0), loadOf(0)), threadOf(loadOf(0), loadOf(0))),
		programOf(threadOf(sendTo(0), sendTo(0)), threadOf(sendTo(0), sendTo(1)), threadOf(sendTo(1))),
		programOf(threadOf(lockOf(0), loadOf(0), unlockOf(0)), threadOf(lockOf(0), loadOf(0), unlockOf(0)), threadOf(lockOf(0), storeOf(0), unlockOf(0))),
		programOf(threadOf(lockOf(0), unlockOf(0), lockOf(0)), threadOf(lockOf(0), unlockOf(0)), threadOf(lockOf(0))),
		programOf(threadOf(getFrom(1), storeOf(1)), threadOf(getFrom(1), storeOf(1)), threadOf(loadOf(1), sendTo(1), sendTo(1))),
	}
}

// toldPrograms returns programs of three threads that load and store at one place, and tell each other by channels and a lock.
func toldPrograms() []impl.Program {
	list := []impl.Program{}
	stmts := threadOf(loadOf(0), loadOf(0), storeOf(0), sendTo(0), getFrom(0), sendTo(1), getFrom(1), lockOf(0), unlockOf(0))
	seed := uint32(11)
	p := impl.Program{}
	for _, lengths := range [][]int{{2, 2, 2}, {3, 2, 1}, {1, 3, 2}, {2, 3, 2}, {1, 2, 4}} {
		for range 300 {
			p, seed = mixedProgram(stmts, lengths, seed)
			list = append(list, p)
		}
	}
	return list
}

func TestClocksExamples(t *testing.T) {
	cases := []struct {
		name   string
		p      impl.Program
		order  []int
		want   [][]int
		behind impl.Clocks
	}{
		{"nothing", handOn(), nil, nil,
			impl.Clocks{Threads: noughtClocks(3, 3), Locks: noughtClocks(2, 3), Chans: noughtClocks(2, 3)}},
		{"nothing of no statements", programOf(nil), []int{}, nil,
			impl.Clocks{Threads: [][]int{{0}}, Locks: [][]int{{0}, {0}}, Chans: [][]int{{0}, {0}}}},
		{"one thread", programOf(fences(6)), make([]int, 6), [][]int{{1}, {2}, {3}, {4}, {5}, {6}},
			impl.Clocks{Threads: [][]int{{6}}, Locks: [][]int{{0}, {0}}, Chans: [][]int{{0}, {0}}}},
		{"the last of three threads alone", programOf(nil, fences(2), fences(2)), []int{2}, [][]int{{0, 0, 1}},
			impl.Clocks{Threads: [][]int{{0, 0, 0}, {0, 0, 0}, {0, 0, 1}}, Locks: noughtClocks(2, 3), Chans: noughtClocks(2, 3)}},
		{"statements that are passed over", programOf(threadOf(skipOver(0, 2), storeOf(0), storeOf(0), storeOf(0))), []int{0, 0}, [][]int{{1}, {2}},
			impl.Clocks{Threads: [][]int{{2}}, Locks: [][]int{{0}, {0}}, Chans: [][]int{{0}, {0}}}},
		{"what conflicts only", programOf(storeAt(0), storeAt(0)), []int{1, 0}, [][]int{{0, 1}, {1, 0}},
			impl.Clocks{Threads: [][]int{{1, 0}, {0, 1}}, Locks: noughtClocks(2, 2), Chans: noughtClocks(2, 2)}},
		{"a send and a get", programOf(threadOf(storeOf(0), sendTo(0)), threadOf(getFrom(0), loadOf(0))), []int{0, 0, 1}, [][]int{{1, 0}, {2, 0}, {2, 1}},
			impl.Clocks{Threads: [][]int{{2, 0}, {2, 1}}, Locks: noughtClocks(2, 2), Chans: [][]int{{2, 1}, {0, 0}}}},
		{"a send that nobody has got yet", programOf(threadOf(storeOf(0), sendTo(0)), threadOf(getFrom(0), loadOf(0))), []int{0, 0}, [][]int{{1, 0}, {2, 0}},
			impl.Clocks{Threads: [][]int{{2, 0}, {0, 0}}, Locks: noughtClocks(2, 2), Chans: [][]int{{2, 0}, {0, 0}}}},
		{"a channel from which no one gets", sendsUngot(), []int{1, 1, 0}, [][]int{{0, 1, 0}, {0, 2, 0}, {1, 0, 0}},
			impl.Clocks{Threads: [][]int{{1, 0, 0}, {0, 2, 0}, {0, 0, 0}}, Locks: noughtClocks(2, 3), Chans: [][]int{{0, 0, 0}, {0, 1, 0}}}},
		{"room for a send", handBack(), []int{0, 1, 1, 0, 0}, [][]int{{1, 0}, {0, 1}, {1, 2}, {2, 2}, {3, 2}},
			impl.Clocks{Threads: [][]int{{3, 2}, {1, 2}}, Locks: noughtClocks(2, 2), Chans: [][]int{{2, 2}, {0, 0}}}},
		{"a channel from which two get", toldTwice(), []int{0, 0, 1, 1, 0, 2, 2}, [][]int{{1, 0, 0}, {2, 0, 0}, {2, 1, 0}, {2, 2, 0}, {3, 1, 0}, {3, 1, 1}, {3, 1, 2}},
			impl.Clocks{Threads: [][]int{{3, 1, 0}, {2, 2, 0}, {3, 1, 2}}, Locks: noughtClocks(2, 3), Chans: [][]int{{3, 1, 1}, {0, 0, 0}}}},
		{"two channels", programOf(threadOf(sendTo(0), sendTo(1)), threadOf(getFrom(1)), threadOf(getFrom(0))), []int{0, 0, 1, 2}, [][]int{{1, 0, 0}, {2, 0, 0}, {2, 1, 0}, {1, 0, 1}},
			impl.Clocks{Threads: [][]int{{2, 0, 0}, {2, 1, 0}, {1, 0, 1}}, Locks: noughtClocks(2, 3), Chans: [][]int{{1, 0, 1}, {2, 1, 0}}}},
		{"a chain through a third thread", handOn(), []int{0, 0, 1, 1, 2, 2}, [][]int{{1, 0, 0}, {2, 0, 0}, {2, 1, 0}, {2, 2, 0}, {2, 2, 1}, {2, 2, 2}},
			impl.Clocks{Threads: [][]int{{2, 0, 0}, {2, 2, 0}, {2, 2, 2}}, Locks: noughtClocks(2, 3), Chans: [][]int{{2, 1, 0}, {2, 2, 1}}}},
		{"a lock that two take", guardedAdds(), []int{1, 1, 1, 0, 0, 0}, [][]int{{0, 1}, {0, 2}, {0, 3}, {1, 3}, {2, 3}, {3, 3}},
			impl.Clocks{Threads: [][]int{{3, 3}, {0, 3}}, Locks: [][]int{{0, 0}, {3, 3}}, Chans: noughtClocks(2, 2)}},
		{"a lock that is taken again, and not free yet", guardedAdds(), []int{1, 1, 1, 0, 0}, [][]int{{0, 1}, {0, 2}, {0, 3}, {1, 3}, {2, 3}},
			impl.Clocks{Threads: [][]int{{2, 3}, {0, 3}}, Locks: [][]int{{0, 0}, {0, 3}}, Chans: noughtClocks(2, 2)}},
		{"a lock that nobody lets free", keptLocks(), []int{1, 1}, [][]int{{0, 1}, {0, 2}},
			impl.Clocks{Threads: [][]int{{0, 0}, {0, 2}}, Locks: noughtClocks(2, 2), Chans: noughtClocks(2, 2)}},
		{"two locks", twoLocks(), []int{0, 0, 1, 1, 0, 1}, [][]int{{1, 0}, {2, 0}, {0, 1}, {0, 2}, {3, 2}, {2, 3}},
			impl.Clocks{Threads: [][]int{{3, 2}, {2, 3}}, Locks: [][]int{{2, 0}, {0, 2}}, Chans: noughtClocks(2, 2)}},
		{"a lock and a channel of one number", programOf(threadOf(lockOf(0), unlockOf(0)), threadOf(sendTo(0))), []int{0, 0, 1}, [][]int{{1, 0}, {2, 0}, {0, 1}},
			impl.Clocks{Threads: [][]int{{2, 0}, {0, 1}}, Locks: [][]int{{2, 0}, {0, 0}}, Chans: [][]int{{0, 1}, {0, 0}}}},
		{"a channel and a lock of one number", programOf(threadOf(sendTo(1), fences(1)[0]), threadOf(lockOf(1), unlockOf(1))), []int{0, 1, 0, 1}, [][]int{{1, 0}, {0, 1}, {2, 0}, {0, 2}},
			impl.Clocks{Threads: [][]int{{2, 0}, {0, 2}}, Locks: [][]int{{0, 0}, {0, 2}}, Chans: [][]int{{0, 0}, {1, 0}}}},
	}
	for _, c := range cases {
		if clocks, ok := impl.ClocksOf(c.p, c.order); !ok || !sameOrderLists(clocks, c.want) {
			t.Errorf("%s: ClocksOf = %v, %v, want %v", c.name, clocks, ok, c.want)
		}
		if behind, ok := impl.ClocksBehind(c.p, c.order); !ok || !sameClocks(behind, c.behind) {
			t.Errorf("%s: ClocksBehind = %v, %v, want %v", c.name, behind, ok, c.behind)
		}
	}
}

func TestRaceAtExamples(t *testing.T) {
	swap := impl.Stmt{Kind: impl.StSwap, A: 0, B: 0, C: 1}
	strongStore := impl.Stmt{Kind: impl.StStore, A: 0, B: -1, C: 1, Strong: true}
	strongLoad := impl.Stmt{Kind: impl.StLoad, A: 0, B: 0, Strong: true}
	stores := programOf(storeAt(2), storeAt(2), storeAt(2))
	loads := programOf(threadOf(loadOf(0)), threadOf(loadOf(0)), threadOf(loadOf(0), storeOf(0)))
	laterLoad := programOf(threadOf(loadOf(0), sendTo(0), loadOf(0)), threadOf(getFrom(0), storeOf(0)))
	cases := []struct {
		name  string
		p     impl.Program
		order []int
		want  int
	}{
		{"nothing", lostUpdate(), nil, -1},
		{"nothing of no statements", programOf(nil, nil), []int{}, -1},
		{"one event", lostUpdate(), []int{1}, -1},
		{"one thread", programOf(threadOf(storeOf(0), loadOf(0), addOf(0))), []int{0, 0, 0}, -1},
		{"a store and a load", programOf(storeAt(0), threadOf(loadOf(0))), []int{0, 1}, 1},
		{"a load and a store", programOf(storeAt(0), threadOf(loadOf(0))), []int{1, 0}, 1},
		{"two loads", programOf(threadOf(loadOf(0)), threadOf(loadOf(0))), []int{0, 1}, -1},
		{"two adds", programOf(threadOf(addOf(1)), threadOf(addOf(1))), []int{1, 0}, 1},
		{"a swap and a load", programOf(threadOf(swap), threadOf(loadOf(0))), []int{0, 1}, 1},
		{"a load and a swap", programOf(threadOf(swap), threadOf(loadOf(0))), []int{1, 0}, 1},
		{"a strong store and a strong load", programOf(threadOf(strongStore), threadOf(strongLoad)), []int{0, 1}, 1},
		{"two places", programOf(storeAt(0), storeAt(1)), []int{0, 1}, -1},
		{"a place, and a lock and a channel of its number", programOf(storeAt(0), threadOf(lockOf(0), sendTo(0))), []int{0, 1, 1}, -1},
		{"fences between", programOf(append(fences(2), storeOf(0)), append(fences(2), storeOf(0))), []int{0, 1, 0, 1, 0, 1}, 5},
		{"two updates one behind the other", lostUpdate(), []int{0, 0, 1, 1}, 2},
		{"two updates at once", lostUpdate(), []int{1, 0, 1, 0}, 2},
		{"a beginning of two updates that races", lostUpdate(), []int{0, 1, 0}, 2},
		{"a beginning of two updates that does not", lostUpdate(), []int{0, 1}, -1},
		{"each of three", stores, []int{2, 0, 1}, 1},
		{"races at two places", storesAndLoads(), []int{0, 1, 0, 1}, 2},
		{"a store ahead of a load of the same thread", programOf(threadOf(storeOf(0), loadOf(0)), threadOf(loadOf(0))), []int{0, 0, 1}, 2},
		{"under a lock", guardedAdds(), []int{1, 1, 1, 0, 0, 0}, -1},
		{"under two locks", otherLocks(), []int{0, 0, 0, 1, 1}, 4},
		{"a load whose thread locks later", locksInTurn(), []int{0, 0, 0, 1, 1, 1}, -1},
		{"a load whose thread locks first", locksInTurn(), []int{1, 1, 0, 1, 0, 0}, 3},
		{"what is sent on", handOn(), []int{0, 0, 1, 1, 2, 2}, -1},
		{"room for a send", handBack(), []int{0, 1, 1, 0, 0}, -1},
		{"the get of the one that stored is first", getsInTurn(), []int{0, 1, 1, 0, 2, 2}, -1},
		{"the get of the one that stored is second", getsInTurn(), []int{0, 1, 2, 0, 1, 2}, 5},
		{"two that were told", toldTwice(), []int{0, 0, 1, 0, 2, 2, 1}, -1},
		{"a channel from which no one gets", sendsUngot(), []int{0, 0, 0}, -1},
		{"a store behind a send that no one got", sendsUngot(), []int{1, 1, 0}, 2},
		{"a store that knows of the first of two loads", readsApart(), []int{0, 1, 0, 2, 2}, 4},
		{"a store that knows of the second of two loads", readsApart(), []int{1, 0, 0, 2, 2}, 4},
		{"a store that knows of the one load", readsApart(), []int{0, 0, 2, 2}, -1},
		{"a load that does not know of a store", readsApart(), []int{0, 0, 2, 2, 1}, 4},
		{"a store that knows of no load", loads, []int{0, 2, 1, 2}, 3},
		{"a store that knows of its own load", loads, []int{2, 2}, -1},
		{"a store that knows of two loads", readsTold(), []int{0, 1, 1, 0, 2, 2, 2}, -1},
		{"loads in order", readsInTurn(), []int{0, 0, 1, 1, 1, 2, 2}, -1},
		{"loads that a third one knows of", readsGathered(), []int{1, 0, 0, 1, 1, 1, 2, 2}, -1},
		{"one load of a thread that a store knows of, and one that it does not", laterLoad, []int{0, 0, 0, 1, 1}, 4},
		{"a load behind a store that knows of another one", laterLoad, []int{0, 0, 1, 1, 0}, 4},
		{"a later load among two", readsAgain(), []int{0, 0, 1, 1, 0, 2, 2, 2}, 7},
		{"a load that does not know of a store, behind two that do", storeTold(), []int{0, 0, 0, 1, 1, 2}, 5},
		{"two loads that know of a store", storeTold(), []int{0, 0, 0, 1, 1}, -1},
		{"no later load among two", readsAgain(), []int{0, 0, 1, 1, 2, 2, 2}, -1},
	}
	for _, c := range cases {
		if at := impl.RaceAt(c.p, c.order); at != c.want {
			t.Errorf("%s: RaceAt(%v) = %d, want %d", c.name, c.order, at, c.want)
		}
	}
}

func TestClocksAgainstCounts(t *testing.T) {
	racing, free := 0, 0
	for _, p := range append(append(clockPrograms(), toldPrograms()...), allPrograms()...) {
		races, others := checkClocks(t, p)
		racing += races
		free += others
	}
	if racing < 10000 || free < 10000 {
		t.Errorf("%d orders race, %d do not", racing, free)
	}
}

func TestClocksOfAllPairsOfShortThreads(t *testing.T) {
	threads := shortThreads([]impl.Stmt{loadOf(0), addOf(0), lockOf(0), unlockOf(0), sendTo(0), getFrom(0), storeOf(1)})
	for _, a := range threads {
		for _, b := range threads {
			checkClocks(t, programOf(a, b))
			checkClocks(t, programOf(a, threadOf(sendTo(0), getFrom(0)), b))
			checkClocks(t, programOf(threadOf(loadOf(0)), a, b))
		}
	}
}

func TestClocksOfTheLargestPrograms(t *testing.T) {
	adds := threadOf(addOf(0), addOf(1), addOf(2))
	locked := threadOf(lockOf(1), addOf(2), unlockOf(1))
	for _, p := range []impl.Program{
		programOf(adds, adds, adds),
		programOf(locked, locked, locked),
		programOf(fences(6), fences(3)),
		programOf(threadOf(lockOf(0), addOf(0), unlockOf(0), lockOf(0), addOf(0), unlockOf(0)), threadOf(lockOf(0), addOf(0), unlockOf(0))),
		programOf(threadOf(sendTo(0), sendTo(0), storeOf(2)), threadOf(getFrom(0), storeOf(1), loadOf(2)), threadOf(getFrom(0), loadOf(1), loadOf(2))),
	} {
		checkClocks(t, p)
	}
}

// checkNoClocks fails the test if there is an answer about an order that is none.
func checkNoClocks(t *testing.T, p impl.Program, order []int) {
	t.Helper()
	if clocks, ok := impl.ClocksOf(p, order); ok || len(clocks) != 0 {
		t.Errorf("ClocksOf(%v, %v) = %v, %v", p, order, clocks, ok)
	}
	if behind, ok := impl.ClocksBehind(p, order); ok || !sameClocks(behind, impl.Clocks{}) {
		t.Errorf("ClocksBehind(%v, %v) = %v, %v", p, order, behind, ok)
	}
	if at := impl.RaceAt(p, order); at != -1 {
		t.Errorf("RaceAt(%v, %v) = %d", p, order, at)
	}
}

func TestClocksOfWhatIsNoOrder(t *testing.T) {
	for _, none := range noOrders() {
		checkNoClocks(t, none.p, none.order)
	}
	// What races, and then cannot go on, is no order either.
	checkNoClocks(t, lostUpdate(), []int{0, 0, 1, 1, 1})
	checkNoClocks(t, lostUpdate(), []int{0, 0, 1, 1, 2})
	checkNoClocks(t, sendsUngot(), []int{0, 0, 1})
}

func TestClocksOfWhatIsNoProgram(t *testing.T) {
	for _, p := range noPrograms() {
		for _, order := range [][]int{nil, {}, {0}, {1}, {-1}, {0, 0}} {
			checkNoClocks(t, p, order)
		}
	}
}

// checkOwnClocks writes into all lists of an answer, up to where their room ends, and fails the test if another one of its lists changes.
func checkOwnClocks(t *testing.T, name string, behind impl.Clocks) {
	t.Helper()
	checkOwnLists(t, name, clockLists(behind))
	parts := [][][]int{behind.Threads, behind.Locks, behind.Chans}
	for i, part := range parts {
		room := part[:cap(part)]
		for at := range room {
			room[at] = []int{i}
		}
	}
	for i, part := range parts {
		for _, clock := range part {
			if !sameNumbers(clock, []int{i}) {
				t.Errorf("%s: threads, locks and channels share memory: %v", name, parts)
			}
		}
	}
}

func TestClocksReturnNewMemory(t *testing.T) {
	for _, p := range append(fewPrograms(), clockPrograms()...) {
		for _, order := range plainOrdersOf(p).all {
			clocks, _ := impl.ClocksOf(p, order)
			behind, _ := impl.ClocksBehind(p, order)
			otherClocks, _ := impl.ClocksOf(p, order)
			otherBehind, _ := impl.ClocksBehind(p, order)
			checkOwnLists(t, "ClocksOf", clocks)
			checkOwnClocks(t, "ClocksBehind", behind)
			if !sameOrderLists(otherClocks, countedClocks(p, order)) || !sameClocks(otherBehind, countedBehind(p, order)) {
				t.Errorf("two answers share memory: %v, %v", otherClocks, otherBehind)
			}
			checkOrderClocks(t, p, order)
		}
	}
}

func TestClocksChangeNoArgument(t *testing.T) {
	p, stmts := roomyProgram()
	orders, array := roomyOrders()
	for _, order := range orders {
		clocks, ok := impl.ClocksOf(p, order)
		behind, played := impl.ClocksBehind(p, order)
		if at := impl.RaceAt(p, order); !ok || !played || at != -1 {
			t.Fatalf("%v is no order, or races: %v, %v, %d", order, clocks, behind, at)
		}
		checkOwnLists(t, "ClocksOf", clocks)
		checkOwnClocks(t, "ClocksBehind", behind)
		checkRoomyOrders(t, "ClocksOf, ClocksBehind, RaceAt, or writing to what they returned,", orders, array)
	}
	checkArgument(t, "what is asked of clocks", p, stmts)
	for i, p := range clockPrograms() {
		checkClocks(t, p)
		if !sameProgram(p, clockPrograms()[i]) {
			t.Errorf("what is asked of clocks has changed %v", p)
		}
	}
}

// roomyClocks returns two clocks that lie in one array with room between, and that array.
func roomyClocks() ([]int, []int, []int) {
	array := []int{7, 1, 5, 2, 7, 7, 3, 4, 2, 7, 7, 7}
	return array[1:4], array[6:9], array
}

func TestJoiningClocksChangesNoArgument(t *testing.T) {
	a, b, array := roomyClocks()
	_, _, fresh := roomyClocks()
	for _, pair := range [][][]int{{a, b}, {b, a}, {a, a}, {b, b}, {a[:0], b[:0]}, {a, b[:2]}} {
		impl.ClockWithin(pair[0], pair[1])
		one, _ := impl.ClockJoin(pair[0], pair[1])
		other, _ := impl.ClockJoin(pair[0], pair[1])
		checkOwnLists(t, "ClockJoin", [][]int{one, other})
		if !sameNumbers(array, fresh) {
			t.Errorf("ClockWithin, ClockJoin, or writing to what it returned, has changed its clocks: %v", array)
		}
	}
	if clock, ok := impl.ClockJoin(a, b); !ok || !sameNumbers(clock, []int{3, 5, 2}) {
		t.Errorf("ClockJoin keeps what it returns: %v, %v", clock, ok)
	}
}
