package tests

import (
	"math"
	"testing"

	"loop.example/wholethreads/impl"
)

// sameOrderLists reports whether two lists have the same orders, one behind the other.
func sameOrderLists(a [][]int, b [][]int) bool {
	if len(a) != len(b) {
		return false
	}
	for i := range a {
		if !sameNumbers(a[i], b[i]) {
			return false
		}
	}
	return true
}

// sameEvents reports whether two lists have the same events; nil and empty are the same.
func sameEvents(a []impl.Event, b []impl.Event) bool {
	if len(a) != len(b) {
		return false
	}
	for i := range a {
		if a[i] != b[i] {
			return false
		}
	}
	return true
}

// eventsAt returns the events of a program that are told by thread and index.
func eventsAt(p impl.Program, which ...[2]int) []impl.Event {
	list := []impl.Event{}
	for _, w := range which {
		list = append(list, impl.Event{Thread: w[0], At: w[1], Stmt: p.Threads[w[0]][w[1]]})
	}
	return list
}

// storeAt returns a thread that stores 1 at a place.
func storeAt(place int) []impl.Stmt {
	return []impl.Stmt{{Kind: impl.StStore, A: place, B: -1, C: 1}}
}

// oneSendTwoGets returns three threads, of which one sends once, and each of the others gets.
func oneSendTwoGets() impl.Program {
	get := []impl.Stmt{{Kind: impl.StGet, A: 0, B: 1}}
	return programOf(get, []impl.Stmt{{Kind: impl.StSend, A: 1, B: -1, C: 2}}, get)
}

// twoSendsTwoGets returns three threads, of which one sends twice, and each of the others gets.
func twoSendsTwoGets() impl.Program {
	get := []impl.Stmt{{Kind: impl.StGet, A: 0, B: 0}}
	return programOf([]impl.Stmt{{Kind: impl.StSend, A: 0, B: -1, C: 1}, {Kind: impl.StSend, A: 0, B: -1, C: 2}}, get, get)
}

// guardedAdds returns two threads that each add to a place under a lock.
func guardedAdds() impl.Program {
	thread := []impl.Stmt{{Kind: impl.StLock, A: 1}, {Kind: impl.StAdd, A: 0, B: 2, C: 1}, {Kind: impl.StUnlock, A: 1}}
	return programOf(thread, thread)
}

// manyReads returns three threads that read one place, one of which writes another one.
func manyReads() impl.Program {
	load := impl.Stmt{Kind: impl.StLoad, A: 1, B: 0}
	return programOf([]impl.Stmt{load, load}, []impl.Stmt{load, {Kind: impl.StStore, A: 1, B: 1, C: 1}}, []impl.Stmt{load, {Kind: impl.StLoad, A: 0, B: 1, Strong: true}})
}

// skipped returns two threads, of which one passes over its store unless the other one has stored.
func skipped() impl.Program {
	return programOf(
		[]impl.Stmt{{Kind: impl.StLoad, A: 2, B: 0}, {Kind: impl.StSkip, A: 2, B: 6}, {Kind: impl.StStore, A: 1, B: -1, C: 3}},
		[]impl.Stmt{{Kind: impl.StStore, A: 0, B: -1, C: 1}, {Kind: impl.StLoad, A: 0, B: 1}},
	)
}

// fewPrograms returns programs of all that orders hang on.
func fewPrograms() []impl.Program {
	return []impl.Program{
		programOf(nil), programOf(nil, nil, nil), programOf(fences(3)), programOf(nil, fences(2), nil),
		programOf(storeAt(0), storeAt(1)), programOf(storeAt(0), storeAt(0)), programOf(storeAt(2), storeAt(1), storeAt(2)),
		storesAndLoads(), lostUpdate(), crossedLocks(), handOver(), twoWays(),
		oneSendTwoGets(), twoSendsTwoGets(), guardedAdds(), manyReads(), skipped(),
	}
}

func TestOrdersExamples(t *testing.T) {
	lock, unlock := impl.Stmt{Kind: impl.StLock}, impl.Stmt{Kind: impl.StUnlock}
	get, skip := impl.Stmt{Kind: impl.StGet, A: 0, B: 0}, impl.Stmt{Kind: impl.StSkip, A: 0, B: 1}
	nothing := [][]int{{}}
	bothWays := [][]int{{0, 1}, {1, 0}}
	cases := []struct {
		name  string
		p     impl.Program
		whole [][]int
		least [][]int
	}{
		{"a thread without statements", programOf(nil), nothing, nothing},
		{"threads without statements", programOf(nil, nil, nil), nothing, nothing},
		{"one thread", programOf(fences(3)), [][]int{{0, 0, 0}}, [][]int{{0, 0, 0}}},
		{"one thread between others without statements", programOf(nil, fences(2), nil), [][]int{{1, 1}}, [][]int{{1, 1}}},
		{"stores at two places", programOf(storeAt(0), storeAt(1)), bothWays, bothWays[:1]},
		{"stores at one place", programOf(storeAt(0), storeAt(0)), bothWays, bothWays},
		{"three fences", programOf(fences(1), fences(1), fences(1)), [][]int{{0, 1, 2}, {0, 2, 1}, {1, 0, 2}, {1, 2, 0}, {2, 0, 1}, {2, 1, 0}}, [][]int{{0, 1, 2}}},
		{"two of three at one place", programOf(storeAt(2), storeAt(1), storeAt(2)), [][]int{{0, 1, 2}, {0, 2, 1}, {1, 0, 2}, {1, 2, 0}, {2, 0, 1}, {2, 1, 0}}, [][]int{{0, 1, 2}, {1, 2, 0}}},
		{"a get that waits for ever", programOf([]impl.Stmt{get}), nothing, nothing},
		{"a lock that the thread has", programOf([]impl.Stmt{lock, lock, lock}), [][]int{{0}}, [][]int{{0}}},
		{"unlocking what nobody has", programOf([]impl.Stmt{unlock}, fences(1)), [][]int{{1}}, [][]int{{1}}},
		{"a lock that nobody lets free", programOf([]impl.Stmt{lock}, []impl.Stmt{lock}), [][]int{{0}, {1}}, [][]int{{0}, {1}}},
		{"one send for two gets", oneSendTwoGets(), [][]int{{1, 0}, {1, 2}}, [][]int{{1, 0}, {1, 2}}},
		{"two sends for two gets", twoSendsTwoGets(), [][]int{{0, 1, 0, 2}, {0, 2, 0, 1}}, [][]int{{0, 1, 0, 2}, {0, 2, 0, 1}}},
		{"a skip to the end", programOf([]impl.Stmt{skip, lock}), [][]int{{0}}, [][]int{{0}}},
		{"a skip far past the end", programOf([]impl.Stmt{{Kind: impl.StSkip, A: 1, B: 6}, lock, lock}, nil), [][]int{{0}}, [][]int{{0}}},
		{"a skip over nothing", programOf([]impl.Stmt{lets(4)[3], skip, lock}), [][]int{{0, 0, 0}}, [][]int{{0, 0, 0}}},
		{"a skip over what waits", programOf([]impl.Stmt{skip, get, lets(1)[0]}), [][]int{{0, 0}}, [][]int{{0, 0}}},
		{"a skip that hangs on the order", twoWays(), [][]int{{0, 0, 1}, {0, 1, 0}, {1, 0, 0, 0}}, [][]int{{0, 0, 1}, {1, 0, 0, 0}}},
	}
	for _, c := range cases {
		if list := impl.Orders(c.p); !sameOrderLists(list, c.whole) {
			t.Errorf("%s: Orders = %v, want %v", c.name, list, c.whole)
		}
		if list := impl.LeastOrders(c.p); !sameOrderLists(list, c.least) {
			t.Errorf("%s: LeastOrders = %v, want %v", c.name, list, c.least)
		}
	}
}

// checkOrders fails the test if the whole orders of a program are not all of them, in order, each once; if least ones are not those that are their own LeastOrder; or if these come not to all outcomes.
func checkOrders(t *testing.T, p impl.Program) {
	t.Helper()
	whole := plainOrdersOf(p).whole
	if list := impl.Orders(p); !sameOrderLists(list, whole) {
		t.Errorf("Orders(%v) = %v, want %v", p, list, whole)
	}
	own := [][]int{}
	for _, order := range whole {
		if least, ok := impl.LeastOrder(p, order); ok && sameNumbers(least, order) {
			own = append(own, order)
		}
	}
	least := impl.LeastOrders(p)
	if !sameOrderLists(least, own) {
		t.Errorf("LeastOrders(%v) = %v, want %v", p, least, own)
	}
	want := walkOf(p).outcomes
	if list, ok := impl.OutcomesBy(p, least); !ok || !sameOutcomes(list, want) || !sameOutcomes(impl.Outcomes(p), want) {
		t.Errorf("the outcomes of the least orders of %v are %v, %v, want %v", p, list, ok, want)
	}
	if list, ok := impl.OutcomesBy(p, whole); !ok || !sameOutcomes(list, want) {
		t.Errorf("the outcomes of the orders of %v are %v, %v, want %v", p, list, ok, want)
	}
}

func TestOrdersOfFewPrograms(t *testing.T) {
	for _, p := range fewPrograms() {
		checkOrders(t, p)
	}
}

func TestOrdersOfAllPairsOfShortThreads(t *testing.T) {
	threads := shortThreads(busyStmts()[:12])
	for _, a := range threads {
		for _, b := range threads {
			checkOrders(t, programOf(a, b))
		}
	}
}

// mixedPrograms returns programs of few threads and lengths, whose statements are drawn from all kinds, and from those that never wait.
func mixedPrograms() []impl.Program {
	list := []impl.Program{}
	seed := uint32(7)
	p := impl.Program{}
	for _, lengths := range [][]int{{6}, {3, 3}, {5, 2}, {2, 4}, {1, 2, 1}, {2, 0, 3}, {1, 1, 3}, {2, 2, 2}, {3, 1, 2}} {
		for range 60 {
			p, seed = mixedProgram(busyStmts(), lengths, seed)
			list = append(list, p)
		}
		for range 30 {
			p, seed = mixedProgram(freeStmts(), lengths, seed)
			list = append(list, p)
		}
	}
	return list
}

func TestOrdersOfMixedPrograms(t *testing.T) {
	for _, p := range mixedPrograms() {
		checkOrders(t, p)
	}
	seed := uint32(3)
	p := impl.Program{}
	for _, lengths := range [][]int{{3, 3, 3}, {6, 3}, {4, 5}, {1, 6, 2}} {
		for range 20 {
			p, seed = mixedProgram(busyStmts(), lengths, seed)
			checkOrders(t, p)
		}
	}
}

func TestOrdersOfTheLargestPrograms(t *testing.T) {
	apart, together := [][]impl.Stmt{}, [][]impl.Stmt{}
	for thread := range 3 {
		own := impl.Stmt{Kind: impl.StAdd, A: thread, B: thread, C: 1}
		shared := impl.Stmt{Kind: impl.StAdd, A: thread, B: 0, C: 1}
		apart = append(apart, []impl.Stmt{own, own, own})
		together = append(together, []impl.Stmt{shared, shared, shared})
	}
	checkOrders(t, programOf(apart...))
	checkOrders(t, programOf(together...))
	// 1680 is 9! / (3! * 3! * 3!).
	if count := len(impl.Orders(programOf(apart...))); count != 1680 {
		t.Errorf("%d orders of three threads of three adds", count)
	}
	if list := impl.LeastOrders(programOf(apart...)); !sameOrderLists(list, [][]int{{0, 0, 0, 1, 1, 1, 2, 2, 2}}) {
		t.Errorf("LeastOrders of adds at three places = %v", list)
	}
	if count := len(impl.LeastOrders(programOf(together...))); count != 1680 {
		t.Errorf("%d least orders of adds at one place", count)
	}
}

func TestEventsOf(t *testing.T) {
	p := handOver()
	cases := []struct {
		name  string
		order []int
		want  []impl.Event
		ok    bool
	}{
		{"nothing", nil, nil, true},
		{"no threads", []int{}, nil, true},
		{"one statement", []int{0}, eventsAt(p, [2]int{0, 0}), true},
		{"what is not whole", []int{0, 0, 0}, eventsAt(p, [2]int{0, 0}, [2]int{0, 1}, [2]int{0, 2}), true},
		{"two threads", []int{0, 0, 0, 0, 1, 1}, eventsAt(p, [2]int{0, 0}, [2]int{0, 1}, [2]int{0, 2}, [2]int{0, 3}, [2]int{1, 0}, [2]int{1, 1}), true},
		{"a get from an empty channel", []int{1}, nil, false},
		{"a get from an empty channel, in the end", []int{0, 0, 0, 1}, nil, false},
		{"a thread that is done", []int{0, 0, 0, 0, 0}, nil, false},
		{"a thread that is done, in the end", []int{0, 0, 0, 0, 1, 1, 1, 1, 1}, nil, false},
		{"far too much", make([]int, 1000), nil, false},
	}
	for _, c := range cases {
		if events, ok := impl.EventsOf(p, c.order); ok != c.ok || !sameEvents(events, c.want) {
			t.Errorf("%s: EventsOf(%v) = %v, %v", c.name, c.order, events, ok)
		}
	}
}

func TestEventsOfSkips(t *testing.T) {
	p := skipped()
	whole := eventsAt(p, [2]int{0, 0}, [2]int{0, 1}, [2]int{1, 0}, [2]int{1, 1})
	if events, ok := impl.EventsOf(p, []int{0, 0, 1, 1}); !ok || !sameEvents(events, whole) {
		t.Errorf("EventsOf = %v, %v", events, ok)
	}
	all := eventsAt(p, [2]int{1, 0}, [2]int{0, 0}, [2]int{0, 1}, [2]int{0, 2})
	if events, ok := impl.EventsOf(p, []int{1, 0, 0, 0}); !ok || !sameEvents(events, all) {
		t.Errorf("EventsOf = %v, %v", events, ok)
	}
	if events, ok := impl.EventsOf(p, []int{0, 0, 0}); ok || len(events) != 0 {
		t.Errorf("EventsOf a thread that has passed over its last statement = %v, %v", events, ok)
	}
	over := programOf(append([]impl.Stmt{{Kind: impl.StSkip, A: 0, B: 2}}, lets(3)...))
	if events, ok := impl.EventsOf(over, []int{0, 0}); !ok || !sameEvents(events, eventsAt(over, [2]int{0, 0}, [2]int{0, 3})) {
		t.Errorf("EventsOf behind a skip over two = %v, %v", events, ok)
	}
}

// checkNoOrder fails the test if a list of threads is taken for an order.
func checkNoOrder(t *testing.T, p impl.Program, order []int) {
	t.Helper()
	if events, ok := impl.EventsOf(p, order); ok || len(events) != 0 {
		t.Errorf("EventsOf(%v, %v) = %v, %v", p, order, events, ok)
	}
	if least, ok := impl.LeastOrder(p, order); ok || len(least) != 0 {
		t.Errorf("LeastOrder(%v, %v) = %v, %v", p, order, least, ok)
	}
	for _, other := range [][]int{nil, order, {0}} {
		if impl.SameOrders(p, order, other) || impl.SameOrders(p, other, order) {
			t.Errorf("SameOrders(%v) of %v and %v", p, order, other)
		}
	}
	for _, orders := range [][][]int{{order}, {{}, order}, {order, {}}, {{}, order, {}}} {
		if list, ok := impl.OutcomesBy(p, orders); ok || len(list) != 0 {
			t.Errorf("OutcomesBy(%v, %v) = %v, %v", p, orders, list, ok)
		}
	}
}

func TestOrdersOfThreadsThatThereAreNot(t *testing.T) {
	for _, p := range []impl.Program{programOf(fences(6)), programOf(fences(6), fences(3)), programOf(fences(3), fences(2), fences(1))} {
		for _, thread := range noThreads(len(p.Threads)) {
			checkNoOrder(t, p, []int{thread})
			checkNoOrder(t, p, []int{0, thread})
			checkNoOrder(t, p, []int{thread, 0})
			checkNoOrder(t, p, []int{0, 0, 0, thread})
		}
	}
}

func TestOrdersOfThreadsThatCannotGoOn(t *testing.T) {
	lock, get := impl.Stmt{Kind: impl.StLock, A: 1}, impl.Stmt{Kind: impl.StGet, A: 0, B: 1}
	cases := []struct {
		p     impl.Program
		order []int
	}{
		{programOf(nil), []int{0}},
		{programOf(nil, fences(1), nil), []int{0}},
		{programOf(nil, fences(1), nil), []int{1, 2}},
		{programOf(nil, fences(1), nil), []int{1, 1}},
		{programOf([]impl.Stmt{lock, lock}), []int{0, 0}},
		{programOf([]impl.Stmt{lock}, []impl.Stmt{lock}), []int{1, 0}},
		{programOf([]impl.Stmt{{Kind: impl.StUnlock}}), []int{0}},
		{programOf([]impl.Stmt{get}), []int{0}},
		{oneSendTwoGets(), []int{1, 0, 2}},
		{oneSendTwoGets(), []int{0, 1}},
		{twoSendsTwoGets(), []int{0, 0, 1, 2}},
		{programOf(fences(1)), make([]int, 100000)},
	}
	for _, c := range cases {
		checkNoOrder(t, c.p, c.order)
	}
}

func TestEventsOfAllOrders(t *testing.T) {
	for _, p := range fewPrograms() {
		length := 5
		if len(p.Threads) == 3 {
			length = 4
		}
		for _, order := range ordersUpTo(length, len(p.Threads)) {
			want, _, can := plainEvents(p, order)
			if events, ok := impl.EventsOf(p, order); ok != can || !sameEvents(events, want) {
				t.Fatalf("EventsOf(%v, %v) = %v, %v, want %v, %v", p, order, events, ok, want, can)
			}
			if !can {
				checkNoOrder(t, p, order)
			}
		}
	}
}

func TestDependExamples(t *testing.T) {
	load, store := impl.Stmt{Kind: impl.StLoad, A: 0, B: 1}, impl.Stmt{Kind: impl.StStore, A: 1, B: -1, C: 1}
	swap, add := impl.Stmt{Kind: impl.StSwap, A: 0, B: 1, C: 2}, impl.Stmt{Kind: impl.StAdd, A: 2, B: 1, C: 0}
	lock, unlock := impl.Stmt{Kind: impl.StLock, A: 1}, impl.Stmt{Kind: impl.StUnlock, A: 1}
	send, get := impl.Stmt{Kind: impl.StSend, A: 1, B: -1, C: 1}, impl.Stmt{Kind: impl.StGet, A: 0, B: 1}
	fence := impl.Stmt{Kind: impl.StFence}
	cases := []struct {
		name string
		a    impl.Stmt
		b    impl.Stmt
		want bool
	}{
		{"two loads of a place", load, load, false},
		{"a strong load and one that is not", load, impl.Stmt{Kind: impl.StLoad, A: 0, B: 1, Strong: true}, false},
		{"a load and a store", load, store, true},
		{"a load and a swap", load, swap, true},
		{"a load and an add of nought", load, add, true},
		{"two stores of the same", store, store, true},
		{"a swap and an add", swap, add, true},
		{"a store and a load of another place", store, impl.Stmt{Kind: impl.StLoad, A: 1, B: 0}, false},
		{"stores at two places", store, impl.Stmt{Kind: impl.StStore, A: 0, B: -1, C: 1}, false},
		{"two locks of a lock", lock, lock, true},
		{"two unlocks of a lock", unlock, unlock, true},
		{"a lock and an unlock", lock, unlock, true},
		{"locks of two locks", lock, impl.Stmt{Kind: impl.StLock, A: 0}, false},
		{"a lock and an unlock of another lock", lock, impl.Stmt{Kind: impl.StUnlock, A: 0}, false},
		{"two gets from a channel", get, get, true},
		{"two sends to a channel", send, send, true},
		{"a send and a get", send, get, true},
		{"a get from another channel", send, impl.Stmt{Kind: impl.StGet, A: 1, B: 0}, false},
		{"gets from two channels into the same register", get, impl.Stmt{Kind: impl.StGet, A: 0, B: 0}, false},
		{"sends to two channels", send, impl.Stmt{Kind: impl.StSend, A: 0, B: -1, C: 1}, false},
		{"a place and a lock of one number", store, lock, false},
		{"a place and a channel of one number", store, send, false},
		{"a lock and a channel of one number", lock, get, false},
		{"two fences", fence, fence, false},
		{"a fence and a store", fence, store, false},
		{"two lets", lets(1)[0], lets(1)[0], false},
		{"two skips", impl.Stmt{Kind: impl.StSkip, A: 0, B: 1}, impl.Stmt{Kind: impl.StSkip, A: 0, B: 1}, false},
		{"locks that there are not", impl.Stmt{Kind: impl.StLock, A: 2}, impl.Stmt{Kind: impl.StLock, A: 2}, false},
		{"what is none and a lock", impl.Stmt{Kind: impl.StUnlock, A: 1, B: 1}, lock, false},
		{"what is none and a get", impl.Stmt{Kind: impl.StSend, A: 1, B: -1, C: 4}, get, false},
	}
	for _, c := range cases {
		for _, threads := range [][]int{{0, 1}, {0, 2}, {2, 1}} {
			a := impl.Event{Thread: threads[0], At: 2, Stmt: c.a}
			b := impl.Event{Thread: threads[1], At: 0, Stmt: c.b}
			if impl.Depend(a, b) != c.want || impl.Depend(b, a) != c.want {
				t.Errorf("%s: Depend = %v, and %v the other way round", c.name, impl.Depend(a, b), impl.Depend(b, a))
			}
			b.Thread = a.Thread
			if !impl.Depend(a, b) || !impl.Depend(b, a) {
				t.Errorf("%s, of one thread: Depend = %v, and %v the other way round", c.name, impl.Depend(a, b), impl.Depend(b, a))
			}
		}
	}
}

func TestDependOfAllPairs(t *testing.T) {
	good := goodStmts()
	for _, a := range good {
		for _, b := range good {
			one, other := impl.Event{Thread: 1, At: 0, Stmt: a}, impl.Event{Thread: 0, At: 5, Stmt: b}
			if impl.Depend(one, other) != plainDepend(one, other) {
				t.Fatalf("Depend(%v, %v) = %v", one, other, impl.Depend(one, other))
			}
		}
	}
	for _, bad := range badStmts() {
		for _, s := range append(good, bad) {
			one, other := impl.Event{Thread: 1, Stmt: bad}, impl.Event{Thread: 2, Stmt: s}
			if impl.Depend(one, other) || impl.Depend(other, one) {
				t.Fatalf("what is none depends: %v, %v", one, other)
			}
		}
	}
}

func TestDependOfThreads(t *testing.T) {
	numbers := []int{0, 1, 2, 3, 4, 63, 64, 128, -1, -2, -64, math.MaxInt, math.MinInt}
	load, store := impl.Stmt{Kind: impl.StLoad, A: 0, B: 1}, impl.Stmt{Kind: impl.StStore, A: 1, B: -1, C: 1}
	for _, a := range numbers {
		for _, b := range numbers {
			one, other := impl.Event{Thread: a, At: -1, Stmt: load}, impl.Event{Thread: b, At: 99, Stmt: load}
			if impl.Depend(one, other) != (a == b) {
				t.Errorf("Depend of two loads of the threads %d and %d = %v", a, b, a != b)
			}
			other.Stmt = store
			if !impl.Depend(one, other) || !impl.Depend(other, one) {
				t.Errorf("Depend of a load and a store of the threads %d and %d = false", a, b)
			}
		}
	}
}

func TestLeastOrderExamples(t *testing.T) {
	cases := []struct {
		name  string
		p     impl.Program
		order []int
		want  []int
	}{
		{"nothing", programOf(storeAt(0), storeAt(1)), nil, nil},
		{"nothing of no statements", programOf(nil), []int{}, nil},
		{"stores at two places", programOf(storeAt(0), storeAt(1)), []int{1, 0}, []int{0, 1}},
		{"stores at one place", programOf(storeAt(0), storeAt(0)), []int{1, 0}, []int{1, 0}},
		{"one that is not whole", programOf(storeAt(0), storeAt(1)), []int{1}, []int{1}},
		{"three fences backwards", programOf(fences(1), fences(1), fences(1)), []int{2, 1, 0}, []int{0, 1, 2}},
		{"one that is not whole, backwards", programOf(fences(3), fences(3), fences(3)), []int{2, 1, 2, 0, 1}, []int{0, 1, 1, 2, 2}},
		{"stores that wait for a third thread", programOf(storeAt(2), storeAt(1), storeAt(2)), []int{2, 1, 0}, []int{1, 2, 0}},
		{"loads behind a store", storesAndLoads(), []int{1, 0, 1, 0}, []int{0, 1, 0, 1}},
		{"a load ahead of a store", storesAndLoads(), []int{1, 1, 0, 0}, []int{1, 1, 0, 0}},
		{"the second lock first", guardedAdds(), []int{1, 1, 1, 0, 0, 0}, []int{1, 1, 1, 0, 0, 0}},
		{"two gets", twoSendsTwoGets(), []int{0, 2, 0, 1}, []int{0, 2, 0, 1}},
	}
	for _, c := range cases {
		if least, ok := impl.LeastOrder(c.p, c.order); !ok || !sameNumbers(least, c.want) {
			t.Errorf("%s: LeastOrder(%v) = %v, %v, want %v", c.name, c.order, least, ok, c.want)
		}
	}
}

// checkExchanges fails the test if LeastOrder of an order of a program, whole or not, is not the first of all that come of it by exchanges.
func checkExchanges(t *testing.T, p impl.Program) {
	t.Helper()
	for _, order := range plainOrdersOf(p).all {
		want := plainFirst(plainSame(p, order))
		if least, ok := impl.LeastOrder(p, order); !ok || !sameNumbers(least, want) {
			t.Errorf("LeastOrder(%v, %v) = %v, %v, want %v", p, order, least, ok, want)
		}
	}
}

func TestLeastOrderAgainstExchanges(t *testing.T) {
	for _, p := range fewPrograms() {
		checkExchanges(t, p)
	}
	for _, p := range mixedPrograms() {
		checkExchanges(t, p)
	}
	threads := shortThreads(busyStmts()[:10])
	for _, a := range threads {
		for _, b := range threads {
			checkExchanges(t, programOf(a, b))
		}
	}
}

func TestLeastOrdersAgainstExchanges(t *testing.T) {
	for _, p := range append(fewPrograms(), mixedPrograms()...) {
		want := [][]int{}
		for _, order := range plainOrdersOf(p).whole {
			if sameNumbers(plainFirst(plainSame(p, order)), order) {
				want = append(want, order)
			}
		}
		if list := impl.LeastOrders(p); !sameOrderLists(list, want) {
			t.Errorf("LeastOrders(%v) = %v, want %v", p, list, want)
		}
	}
}

func TestSameOrdersAgainstExchanges(t *testing.T) {
	for _, p := range fewPrograms() {
		all := plainOrdersOf(p).all
		for _, a := range all {
			same := plainSame(p, a)
			for _, b := range all {
				if impl.SameOrders(p, a, b) != hasOrder(same, b) {
					t.Fatalf("SameOrders(%v, %v, %v) = %v", p, a, b, !hasOrder(same, b))
				}
			}
		}
	}
}

func TestSameOrdersExamples(t *testing.T) {
	apart, together := programOf(storeAt(0), storeAt(1)), programOf(storeAt(0), storeAt(0))
	cases := []struct {
		name string
		p    impl.Program
		a    []int
		b    []int
		want bool
	}{
		{"nothing and nothing", apart, nil, []int{}, true},
		{"an order and itself", together, []int{1, 0}, []int{1, 0}, true},
		{"the two ways at two places", apart, []int{0, 1}, []int{1, 0}, true},
		{"the two ways at one place", together, []int{0, 1}, []int{1, 0}, false},
		{"one and the beginning of it", apart, []int{0, 1}, []int{0}, false},
		{"one and nothing", apart, []int{0, 1}, nil, false},
		{"one and the beginning of what is the same", apart, []int{0, 1}, []int{1}, false},
		{"one statement of each", apart, []int{0}, []int{1}, false},
		{"what is none, and itself", apart, []int{0, 0}, []int{0, 0}, false},
		{"what is none, and one", apart, []int{0, 0}, []int{0, 1}, false},
		{"one, and what is none behind it", apart, []int{0, 1}, []int{0, 1, 1}, false},
		{"of a thread that there is not, and itself", apart, []int{2}, []int{2}, false},
		{"of what waits for ever, and itself", oneSendTwoGets(), []int{0}, []int{0}, false},
	}
	for _, c := range cases {
		if impl.SameOrders(c.p, c.a, c.b) != c.want || impl.SameOrders(c.p, c.b, c.a) != c.want {
			t.Errorf("%s: SameOrders of %v and %v = %v, and %v the other way round", c.name, c.a, c.b, impl.SameOrders(c.p, c.a, c.b), impl.SameOrders(c.p, c.b, c.a))
		}
	}
}

func TestOutcomesByOfNothing(t *testing.T) {
	for _, p := range append(fewPrograms(), threadedPrograms()...) {
		for _, orders := range [][][]int{nil, {}} {
			if list, ok := impl.OutcomesBy(p, orders); !ok || len(list) != 0 {
				t.Errorf("OutcomesBy(%v) of no orders = %v, %v", p, list, ok)
			}
		}
		begin, _ := impl.Begin(p)
		o, _ := impl.OutcomeOf(p, begin)
		for _, orders := range [][][]int{{nil}, {{}}, {{}, nil, {}}} {
			if list, ok := impl.OutcomesBy(p, orders); !ok || !sameOutcomes(list, []impl.Outcome{o}) {
				t.Errorf("OutcomesBy(%v, %v) = %v, %v", p, orders, list, ok)
			}
		}
	}
}

// checkOutcomesBy fails the test if the outcomes of some orders are not those of the states behind them, in order, each once.
func checkOutcomesBy(t *testing.T, p impl.Program, orders [][]int) {
	t.Helper()
	w := walk{}
	for _, order := range orders {
		_, s, _ := plainEvents(p, order)
		w.addOutcome(plainOutcome(p, s))
	}
	if list, ok := impl.OutcomesBy(p, orders); !ok || !sameOutcomes(list, w.outcomes) {
		t.Errorf("OutcomesBy(%v, %v) = %v, %v, want %v", p, orders, list, ok, w.outcomes)
	}
}

// backwards returns orders, the last one first.
func backwards(orders [][]int) [][]int {
	list := [][]int{}
	for _, order := range orders {
		list = append([][]int{order}, list...)
	}
	return list
}

func TestOutcomesByOfSomeOrders(t *testing.T) {
	for _, p := range append(fewPrograms(), mixedPrograms()...) {
		orders := plainOrdersOf(p)
		checkOutcomesBy(t, p, orders.all)
		checkOutcomesBy(t, p, orders.whole)
		checkOutcomesBy(t, p, backwards(orders.whole))
		checkOutcomesBy(t, p, append(backwards(orders.whole), orders.whole...))
		checkOutcomesBy(t, p, [][]int{orders.whole[0], {}, orders.whole[0]})
		for _, order := range orders.whole {
			checkOutcomesBy(t, p, [][]int{order})
			checkOutcomesBy(t, p, [][]int{order[:len(order)/2]})
		}
	}
}

func TestOutcomesByOfWhatIsNoOrder(t *testing.T) {
	p := storesAndLoads()
	whole := impl.Orders(p)
	for at := range len(whole) + 1 {
		for _, none := range [][]int{{0, 0, 0}, {2}, {-1}, {0, 1, 0, 1, 0}} {
			orders := append(append(append([][]int{}, whole[:at]...), none), whole[at:]...)
			if list, ok := impl.OutcomesBy(p, orders); ok || len(list) != 0 {
				t.Errorf("OutcomesBy(%v) = %v, %v", orders, list, ok)
			}
		}
	}
}

func TestOrdersOfWhatIsNoProgram(t *testing.T) {
	for _, p := range noPrograms() {
		if list := impl.Orders(p); len(list) != 0 {
			t.Errorf("Orders(%v) = %v", p, list)
		}
		if list := impl.LeastOrders(p); len(list) != 0 {
			t.Errorf("LeastOrders(%v) = %v", p, list)
		}
		for _, order := range [][]int{nil, {}, {0}, {1}, {-1}, {0, 0}} {
			checkNoOrder(t, p, order)
		}
		for _, orders := range [][][]int{nil, {}} {
			if list, ok := impl.OutcomesBy(p, orders); ok || len(list) != 0 {
				t.Errorf("OutcomesBy(%v) of no orders = %v, %v", p, list, ok)
			}
		}
	}
}

func TestOrdersReturnNewMemory(t *testing.T) {
	for _, p := range fewPrograms() {
		whole, least := plainOrdersOf(p).whole, impl.LeastOrders(p)
		again := [][]int{}
		for _, order := range least {
			again = append(again, append([]int{}, order...))
		}
		one, other := impl.Orders(p), impl.Orders(p)
		checkOwnLists(t, "Orders", one)
		if !sameOrderLists(other, whole) || !sameOrderLists(least, again) {
			t.Errorf("two answers share memory: %v, %v", other, least)
		}
		checkOwnLists(t, "LeastOrders", least)
		if !sameOrderLists(impl.LeastOrders(p), again) || !sameOrderLists(impl.Orders(p), whole) {
			t.Errorf("LeastOrders keeps what it returns: %v, %v", impl.LeastOrders(p), impl.Orders(p))
		}
	}
}

// roomyOrders returns orders of a roomy program that lie in one array with room between, and that array.
func roomyOrders() ([][]int, []int) {
	array := []int{0, 2, 0, 2, 7, 7, 0, 7, 7, 2, 0, 7}
	orders := make([][]int, 0, 6)
	return append(orders, array[0:4], array[6:7], array[8:8], array[9:11]), array
}

// checkRoomyOrders fails the test if roomy orders, or their array, are not as they were.
func checkRoomyOrders(t *testing.T, name string, orders [][]int, array []int) {
	t.Helper()
	fresh, numbers := roomyOrders()
	if !sameOrderLists(orders, fresh) || !sameNumbers(array, numbers) {
		t.Errorf("%s has changed its orders: %v, %v", name, orders, array)
	}
	for _, order := range orders[:6][4:] {
		if order != nil {
			t.Errorf("%s has written behind its orders", name)
		}
	}
}

func TestOrdersChangeNoArgument(t *testing.T) {
	p, stmts := roomyProgram()
	orders, array := roomyOrders()
	impl.Orders(p)
	impl.LeastOrders(p)
	for _, order := range orders {
		events, played := impl.EventsOf(p, order)
		least, ok := impl.LeastOrder(p, order)
		if !played || !ok || !impl.SameOrders(p, order, least) {
			t.Fatalf("%v is no order: %v, %v", order, events, least)
		}
		room := events[:cap(events)]
		for i := range room {
			room[i] = impl.Event{Thread: 99, Stmt: impl.Stmt{Kind: 99}}
		}
		checkOwnLists(t, "LeastOrder", [][]int{least})
		checkRoomyOrders(t, "EventsOf, LeastOrder, or writing to what they returned,", orders, array)
	}
	list, ok := impl.OutcomesBy(p, orders)
	again, _ := impl.OutcomesBy(p, orders)
	if !ok || !sameOutcomes(list, again) {
		t.Fatalf("OutcomesBy = %v, %v, and then %v", list, ok, again)
	}
	spoil(t, "OutcomesBy", list)
	checkRoomyOrders(t, "OutcomesBy", orders, array)
	checkArgument(t, "what is asked of orders", p, stmts)
	checkOutcomesBy(t, p, orders)
}

func TestEventsOfReturnNewMemory(t *testing.T) {
	p := handOver()
	order := []int{0, 0, 0, 0, 1, 1}
	want, _, _ := plainEvents(p, order)
	one, _ := impl.EventsOf(p, order)
	other, _ := impl.EventsOf(p, order)
	for i := range one {
		one[i] = impl.Event{Thread: 99}
	}
	if !sameEvents(other, want) || !sameProgram(p, handOver()) {
		t.Errorf("two answers share memory: %v, %v", other, p)
	}
}
