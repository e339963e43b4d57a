package tests

import "loop.example/wholethreads/impl"

// A second, plain telling of what statements do, and of all interleavings, against which that of the program is held. Kinds and limits are the document's figures.

// plainState is a state as arrays; what a program has no thread for stays 0.
type plainState struct {
	at    [3]int
	regs  [3][3]int
	mem   [3]int
	owner [2]int
	chans [2]int
}

func plainBegin() plainState {
	return plainState{owner: [2]int{-1, -1}, chans: [2]int{-1, -1}}
}

// plainOf returns a state that has the right lengths as arrays.
func plainOf(s impl.State) plainState {
	plain := plainState{}
	for thread := range s.At {
		plain.at[thread] = s.At[thread]
		for r := range 3 {
			plain.regs[thread][r] = s.Regs[3*thread+r]
		}
	}
	for i := range 3 {
		plain.mem[i] = s.Mem[i]
	}
	for i := range 2 {
		plain.owner[i] = s.Owner[i]
		plain.chans[i] = s.Chan[i]
	}
	return plain
}

// stateOf returns a plain state of so many threads as lists.
func stateOf(plain plainState, threads int) impl.State {
	s := impl.State{}
	for thread := range threads {
		s.At = append(s.At, plain.at[thread])
		for r := range 3 {
			s.Regs = append(s.Regs, plain.regs[thread][r])
		}
	}
	for i := range 3 {
		s.Mem = append(s.Mem, plain.mem[i])
	}
	for i := range 2 {
		s.Owner = append(s.Owner, plain.owner[i])
		s.Chan = append(s.Chan, plain.chans[i])
	}
	return s
}

// plainSum returns a sum of a thread that has such registers.
func plainSum(regs [3]int, r int, value int) int {
	sum := value
	if r >= 0 {
		sum += regs[r]
	}
	for sum >= 4 {
		sum -= 4
	}
	return sum
}

// plainStep returns the state behind the next statement of a thread, and whether it can do it.
func plainStep(p impl.Program, s plainState, thread int) (plainState, bool) {
	at := s.at[thread]
	if at == len(p.Threads[thread]) {
		return s, false
	}
	st := p.Threads[thread][at]
	regs := s.regs[thread]
	s.at[thread] = at + 1
	switch st.Kind {
	case 0:
		s.regs[thread][st.A] = plainSum(regs, st.B, st.C)
	case 1:
		s.regs[thread][st.A] = s.mem[st.B]
	case 2:
		s.mem[st.A] = plainSum(regs, st.B, st.C)
	case 3:
		s.regs[thread][st.A] = s.mem[st.B]
		s.mem[st.B] = st.C
	case 4:
		s.regs[thread][st.A] = s.mem[st.B]
		s.mem[st.B] = plainSum(s.mem, st.B, st.C)
	case 6:
		if s.owner[st.A] >= 0 {
			return s, false
		}
		s.owner[st.A] = thread
	case 7:
		if s.owner[st.A] != thread {
			return s, false
		}
		s.owner[st.A] = -1
	case 8:
		if s.chans[st.A] >= 0 {
			return s, false
		}
		s.chans[st.A] = plainSum(regs, st.B, st.C)
	case 9:
		if s.chans[st.B] < 0 {
			return s, false
		}
		s.regs[thread][st.A] = s.chans[st.B]
		s.chans[st.B] = -1
	case 10:
		for passed := 0; regs[st.A] == 0 && passed < st.B && s.at[thread] < len(p.Threads[thread]); passed++ {
			s.at[thread]++
		}
	}
	return s, true
}

// plainOutcome returns what a state has.
func plainOutcome(p impl.Program, s plainState) impl.Outcome {
	lists := stateOf(s, len(p.Threads))
	o := impl.Outcome{Regs: lists.Regs, Mem: lists.Mem}
	for thread, stmts := range p.Threads {
		o.Done = append(o.Done, s.at[thread] == len(stmts))
	}
	return o
}

// ahead reports whether an outcome stands ahead of another one of the same program.
func ahead(a impl.Outcome, b impl.Outcome) bool {
	figuresA := append(append([]int{}, a.Regs...), a.Mem...)
	figuresB := append(append([]int{}, b.Regs...), b.Mem...)
	for i := range figuresA {
		if figuresA[i] != figuresB[i] {
			return figuresA[i] < figuresB[i]
		}
	}
	for i := range a.Done {
		if a.Done[i] != b.Done[i] {
			return b.Done[i]
		}
	}
	return false
}

// walk is what all interleavings come to: states, each once, and outcomes, each once and in order.
type walk struct {
	states   []plainState
	outcomes []impl.Outcome
}

func (w *walk) addState(s plainState) {
	for _, other := range w.states {
		if other == s {
			return
		}
	}
	w.states = append(w.states, s)
}

func (w *walk) addOutcome(o impl.Outcome) {
	behind := []impl.Outcome{}
	before := []impl.Outcome{}
	for _, other := range w.outcomes {
		if sameOutcome(other, o) {
			return
		}
		if ahead(other, o) {
			before = append(before, other)
		} else {
			behind = append(behind, other)
		}
	}
	w.outcomes = append(append(before, o), behind...)
}

// from plays each interleaving to its end, those that come by the same state too.
func (w *walk) from(p impl.Program, s plainState) {
	w.addState(s)
	ended := true
	for thread := range p.Threads {
		if next, ok := plainStep(p, s, thread); ok {
			ended = false
			w.from(p, next)
		}
	}
	if ended {
		w.addOutcome(plainOutcome(p, s))
	}
}

// walkOf returns what all interleavings of a program come to.
func walkOf(p impl.Program) walk {
	w := walk{}
	w.from(p, plainBegin())
	return w
}

// plainOrders is all orders of a program, by the first thread that differs, and those of them that are whole.
type plainOrders struct {
	all   [][]int
	whole [][]int
}

// longer returns a new list with a number more.
func longer(list []int, n int) []int { return append(append([]int{}, list...), n) }

// from adds all orders that begin with one, behind which is a state.
func (o *plainOrders) from(p impl.Program, s plainState, order []int) {
	o.all = append(o.all, order)
	ended := true
	for thread := range p.Threads {
		if next, ok := plainStep(p, s, thread); ok {
			ended = false
			o.from(p, next, longer(order, thread))
		}
	}
	if ended {
		o.whole = append(o.whole, order)
	}
}

// plainOrdersOf returns the orders of a program.
func plainOrdersOf(p impl.Program) plainOrders {
	o := plainOrders{}
	o.from(p, plainBegin(), []int{})
	return o
}

// plainEvents returns the events of an order, the state behind it, and whether it is one.
func plainEvents(p impl.Program, order []int) ([]impl.Event, plainState, bool) {
	events := []impl.Event{}
	s := plainBegin()
	for _, thread := range order {
		if thread < 0 || thread >= len(p.Threads) {
			return nil, s, false
		}
		next, ok := plainStep(p, s, thread)
		if !ok {
			return nil, s, false
		}
		at := s.at[thread]
		events = append(events, impl.Event{Thread: thread, At: at, Stmt: p.Threads[thread][at]})
		s = next
	}
	return events, s, true
}

// plainThing returns a number for the place, lock or channel of a statement, -1 if it has none, and whether it only reads.
func plainThing(s impl.Stmt) (int, bool) {
	switch s.Kind {
	case 1:
		return s.B, true
	case 2:
		return s.A, false
	case 3, 4:
		return s.B, false
	case 6, 7:
		return 10 + s.A, false
	case 8:
		return 20 + s.A, false
	case 9:
		return 20 + s.B, false
	}
	return -1, true
}

// plainDepend reports whether two events of a program depend on each other.
func plainDepend(a impl.Event, b impl.Event) bool {
	thingA, readsA := plainThing(a.Stmt)
	thingB, readsB := plainThing(b.Stmt)
	return a.Thread == b.Thread || thingA >= 0 && thingA == thingB && !(readsA && readsB)
}

// hasOrder reports whether a list has an order.
func hasOrder(list [][]int, order []int) bool {
	for _, other := range list {
		if sameNumbers(other, order) {
			return true
		}
	}
	return false
}

// plainSame returns all orders that come of one by exchanging neighbours that do not depend on each other, the one itself first.
func plainSame(p impl.Program, order []int) [][]int {
	list := [][]int{order}
	for i := 0; i < len(list); i++ {
		events, _, _ := plainEvents(p, list[i])
		for at := 1; at < len(events); at++ {
			if plainDepend(events[at-1], events[at]) {
				continue
			}
			other := append([]int{}, list[i]...)
			other[at-1] = list[i][at]
			other[at] = list[i][at-1]
			if !hasOrder(list, other) {
				list = append(list, other)
			}
		}
	}
	return list
}

// orderAhead reports whether an order stands ahead of another one as long, by the first thread that differs.
func orderAhead(a []int, b []int) bool {
	for i := range a {
		if a[i] != b[i] {
			return a[i] < b[i]
		}
	}
	return false
}

// plainFirst returns the first one of some orders.
func plainFirst(list [][]int) []int {
	first := list[0]
	for _, order := range list {
		if orderAhead(order, first) {
			first = order
		}
	}
	return first
}

// plainLeads reports whether an event happens before a later one without a third one between them.
func plainLeads(a impl.Event, b impl.Event) bool {
	if a.Thread == b.Thread {
		return true
	}
	thingA, _ := plainThing(a.Stmt)
	thingB, _ := plainThing(b.Stmt)
	if thingA != thingB {
		return false
	}
	return a.Stmt.Kind == 7 && b.Stmt.Kind == 6 || a.Stmt.Kind == 8 && b.Stmt.Kind == 9 || a.Stmt.Kind == 9 && b.Stmt.Kind == 8
}

// plainChain reports whether a chain of events, each of which leads to the next one, goes from one event of an order to a later one.
func plainChain(events []impl.Event, i int, k int) bool {
	if i >= k {
		return false
	}
	if plainLeads(events[i], events[k]) {
		return true
	}
	for third := i + 1; third < k; third++ {
		if plainLeads(events[i], events[third]) && plainChain(events, third, k) {
			return true
		}
	}
	return false
}

// plainBefore returns for each two events whether the first one happens before the second one.
func plainBefore(events []impl.Event) [][]bool {
	list := [][]bool{}
	for i := range events {
		row := []bool{}
		for k := range events {
			row = append(row, plainChain(events, i, k))
		}
		list = append(list, row)
	}
	return list
}

// plainConflict reports whether two statements are at the same place, and not both only read.
func plainConflict(a impl.Stmt, b impl.Stmt) bool {
	thingA, readsA := plainThing(a)
	thingB, readsB := plainThing(b)
	return thingA >= 0 && thingA < 3 && thingA == thingB && !(readsA && readsB)
}

// plainRaces returns the pairs of events that race, as they stand in order.
func plainRaces(events []impl.Event) [][]int {
	list := [][]int{}
	for i, a := range events {
		for k, b := range events {
			if i < k && a.Thread != b.Thread && plainConflict(a.Stmt, b.Stmt) && !plainChain(events, i, k) {
				list = append(list, []int{i, k})
			}
		}
	}
	return list
}

// plainRacy is the first whole order of a program that has events that race, whether there is one, and at which places events race in any.
type plainRacy struct {
	order  []int
	races  bool
	places []bool
}

func plainRacyOf(p impl.Program) plainRacy {
	racy := plainRacy{places: make([]bool, 3)}
	for _, order := range plainOrdersOf(p).whole {
		events, _, _ := plainEvents(p, order)
		races := plainRaces(events)
		if len(races) > 0 && !racy.races {
			racy.order, racy.races = order, true
		}
		for _, pair := range races {
			place, _ := plainThing(events[pair[0]].Stmt)
			racy.places[place] = true
		}
	}
	return racy
}

// plainGuards returns for each place and each lock whether no whole order has a statement at the place that is done without the lock.
func plainGuards(p impl.Program) [][]bool {
	guards := [][]bool{{true, true}, {true, true}, {true, true}}
	for _, order := range plainOrdersOf(p).whole {
		s := plainBegin()
		for _, thread := range order {
			place, _ := plainThing(p.Threads[thread][s.at[thread]])
			for lock, owner := range s.owner {
				if place >= 0 && place < 3 && owner != thread {
					guards[place][lock] = false
				}
			}
			s, _ = plainStep(p, s, thread)
		}
	}
	return guards
}

// plainContested returns for each place whether statements of two threads conflict there, done or not.
func plainContested(p impl.Program) []bool {
	places := make([]bool, 3)
	for one, stmts := range p.Threads {
		for _, others := range p.Threads[one+1:] {
			for _, a := range stmts {
				for _, b := range others {
					place, _ := plainThing(a)
					if plainConflict(a, b) {
						places[place] = true
					}
				}
			}
		}
	}
	return places
}

// plainGuarded reports whether each place for which statements of two threads conflict has a lock.
func plainGuarded(p impl.Program) bool {
	guards := plainGuards(p)
	for place, contested := range plainContested(p) {
		if contested && !guards[place][0] && !guards[place][1] {
			return false
		}
	}
	return true
}

// plainStuck reports whether some thread is not done in a state, and none can do its next statement.
func plainStuck(p impl.Program, s plainState) bool {
	left := 0
	for thread, stmts := range p.Threads {
		if _, ok := plainStep(p, s, thread); ok {
			return false
		}
		left += len(stmts) - s.at[thread]
	}
	return left > 0
}

// plainWaits returns for each thread who has the lock that it is to take next, or -1.
func plainWaits(p impl.Program, s plainState) []int {
	list := []int{}
	for thread, stmts := range p.Threads {
		who := -1
		if at := s.at[thread]; at < len(stmts) && stmts[at].Kind == 6 {
			who = s.owner[stmts[at].A]
		}
		list = append(list, who)
	}
	return list
}

// plainStuckOrder returns the first whole order of a program that comes to a state in which it is stuck, and whether there is one.
func plainStuckOrder(p impl.Program) ([]int, bool) {
	for _, order := range plainOrdersOf(p).whole {
		if _, s, _ := plainEvents(p, order); plainStuck(p, s) {
			return order, true
		}
	}
	return nil, false
}

// plainPairs returns for each lock, and for each lock, whether some whole order has a thread take this one while it has that one.
func plainPairs(p impl.Program) [][]bool {
	pairs := [][]bool{{false, false}, {false, false}}
	for _, order := range plainOrdersOf(p).whole {
		s := plainBegin()
		for _, thread := range order {
			st := p.Threads[thread][s.at[thread]]
			for lock, owner := range s.owner {
				if st.Kind == 6 && owner == thread {
					pairs[lock][st.A] = true
				}
			}
			s, _ = plainStep(p, s, thread)
		}
	}
	return pairs
}

// plainAscends reports whether a thread takes only locks greater than all that it has, lets only those free that it has, has none in the end, and does not send, get or skip.
func plainAscends(stmts []impl.Stmt) bool {
	has := [2]bool{}
	for _, st := range stmts {
		switch st.Kind {
		case 8, 9, 10:
			return false
		case 6:
			if has[1] || st.A == 0 && has[0] {
				return false
			}
			has[st.A] = true
		case 7:
			if !has[st.A] {
				return false
			}
			has[st.A] = false
		}
	}
	return !has[0] && !has[1]
}

// plainAscending reports whether all threads of a program do so.
func plainAscending(p impl.Program) bool {
	for _, stmts := range p.Threads {
		if !plainAscends(stmts) {
			return false
		}
	}
	return true
}

// plainBuffered is a state, and for each thread how many stores its buffer has, and the place and the value of each, the oldest one first; what it has not stays 0.
type plainBuffered struct {
	s      plainState
	counts [3]int
	stores [3][7][2]int
}

// plainBufferedOf returns a state that has the right lengths as arrays.
func plainBufferedOf(s impl.Buffered) plainBuffered {
	b := plainBuffered{s: plainOf(s.State)}
	for thread, list := range s.Bufs {
		b.counts[thread] = len(list) / 2
		for i, n := range list {
			b.stores[thread][i/2][i%2] = n
		}
	}
	return b
}

// bufferedOf returns a plain state of so many threads as lists.
func bufferedOf(b plainBuffered, threads int) impl.Buffered {
	s := impl.Buffered{State: stateOf(b.s, threads)}
	for thread := range threads {
		list := []int{}
		for i := range b.counts[thread] {
			list = append(list, b.stores[thread][i][0], b.stores[thread][i][1])
		}
		s.Bufs = append(s.Bufs, list)
	}
	return s
}

// plainReads returns what a thread reads at a place: each store there in its buffer hides what was there before.
func plainReads(b plainBuffered, thread int, place int) int {
	value := b.s.mem[place]
	for i := range b.counts[thread] {
		if b.stores[thread][i][0] == place {
			value = b.stores[thread][i][1]
		}
	}
	return value
}

// plainTake returns the state behind the oldest store of a buffer, and whether there is one.
func plainTake(b plainBuffered, thread int) (plainBuffered, bool) {
	if b.counts[thread] == 0 {
		return b, false
	}
	b.s.mem[b.stores[thread][0][0]] = b.stores[thread][0][1]
	for i := 1; i < 7; i++ {
		b.stores[thread][i-1] = b.stores[thread][i]
	}
	b.stores[thread][6] = [2]int{}
	b.counts[thread]--
	return b, true
}

// plainBufStep returns the state behind a step on the machine with buffers, and whether it can be done.
func plainBufStep(p impl.Program, b plainBuffered, step int) (plainBuffered, bool) {
	threads := len(p.Threads)
	if step < 0 || step >= 2*threads {
		return b, false
	}
	if step >= threads {
		return plainTake(b, step-threads)
	}
	next, ok := plainStep(p, b.s, step)
	if !ok {
		return b, false
	}
	st := p.Threads[step][b.s.at[step]]
	count := b.counts[step]
	switch {
	case st.Kind == 2 && !st.Strong:
		b.stores[step][count] = [2]int{st.A, next.mem[st.A]}
		b.counts[step]++
		next.mem = b.s.mem
	case st.Kind == 1 && !st.Strong:
		next.regs[step][st.A] = plainReads(b, step, st.B)
	case st.Kind != 0 && st.Kind != 10 && count > 0:
		return b, false
	}
	b.s = next
	return b, true
}

// bufWalk is what steps on the machine with buffers come to: states, each once, also by how far their threads are, and outcomes, each once and in order.
type bufWalk struct {
	states   []plainBuffered
	byAt     [7][7][7][]plainBuffered
	outcomes walk
}

// addState adds a state that is not there.
func (w *bufWalk) addState(b plainBuffered) {
	room := &w.byAt[b.s.at[0]][b.s.at[1]][b.s.at[2]]
	for _, other := range *room {
		if other == b {
			return
		}
	}
	*room = append(*room, b)
	w.states = append(w.states, b)
}

// bufWalkOf returns what all steps of a program come to. They come to finitely many states, and each is gone on from once.
func bufWalkOf(p impl.Program) *bufWalk {
	w := &bufWalk{}
	w.addState(plainBuffered{s: plainBegin()})
	for i := 0; i < len(w.states); i++ {
		ended := true
		for step := range 2 * len(p.Threads) {
			if next, ok := plainBufStep(p, w.states[i], step); ok {
				ended = false
				w.addState(next)
			}
		}
		if ended {
			w.outcomes.addOutcome(plainOutcome(p, w.states[i].s))
		}
	}
	return w
}

// plainSpread is a state, and for each thread and each place how many values its buffer has, and these, the oldest one first; what it has not stays 0.
type plainSpread struct {
	s      plainState
	counts [3][3]int
	values [3][3][7]int
}

// plainSpreadOf returns a state that has the right lengths as arrays.
func plainSpreadOf(s impl.Spread) plainSpread {
	b := plainSpread{s: plainOf(s.State)}
	for buffer, list := range s.Bufs {
		b.counts[buffer/3][buffer%3] = len(list)
		for i, value := range list {
			b.values[buffer/3][buffer%3][i] = value
		}
	}
	return b
}

// spreadOf returns a plain state of so many threads as lists.
func spreadOf(b plainSpread, threads int) impl.Spread {
	s := impl.Spread{State: stateOf(b.s, threads)}
	for thread := range threads {
		for place, count := range b.counts[thread] {
			s.Bufs = append(s.Bufs, append([]int{}, b.values[thread][place][:count]...))
		}
	}
	return s
}

// plainSpreadReads returns what a thread reads at a place.
func plainSpreadReads(b plainSpread, thread int, place int) int {
	count := b.counts[thread][place]
	if count == 0 {
		return b.s.mem[place]
	}
	return b.values[thread][place][count-1]
}

// plainSpreadTake returns the state behind the oldest value of a buffer, and whether there is one.
func plainSpreadTake(b plainSpread, thread int, place int) (plainSpread, bool) {
	if b.counts[thread][place] == 0 {
		return b, false
	}
	values := b.values[thread][place]
	b.s.mem[place] = values[0]
	b.values[thread][place] = [7]int{values[1], values[2], values[3], values[4], values[5], values[6]}
	b.counts[thread][place]--
	return b, true
}

// plainSpreadStep returns the state behind a step on the machine with a buffer for each place, and whether it can be done.
func plainSpreadStep(p impl.Program, b plainSpread, step int) (plainSpread, bool) {
	threads := len(p.Threads)
	for thread := range threads {
		for place := range 3 {
			if step == threads+3*thread+place {
				return plainSpreadTake(b, thread, place)
			}
		}
	}
	if step < 0 || step >= threads {
		return b, false
	}
	next, ok := plainStep(p, b.s, step)
	if !ok {
		return b, false
	}
	st := p.Threads[step][b.s.at[step]]
	switch {
	case st.Kind == 2 && !st.Strong:
		b.values[step][st.A][b.counts[step][st.A]] = next.mem[st.A]
		b.counts[step][st.A]++
		next.mem = b.s.mem
	case st.Kind == 1 && !st.Strong:
		next.regs[step][st.A] = plainSpreadReads(b, step, st.B)
	case st.Kind != 0 && st.Kind != 10 && b.counts[step] != [3]int{}:
		return b, false
	}
	b.s = next
	return b, true
}

// spreadWalk is what steps on the machine with a buffer for each place come to: states, each once, also in rooms by a number that hangs on what they have, and outcomes, each once and in order.
type spreadWalk struct {
	states   []plainSpread
	rooms    [1021][]plainSpread
	outcomes walk
}

// roomOf returns the number of a state's room.
func roomOf(b plainSpread) int {
	n := uint(0)
	for thread := range 3 {
		n = 7*n + uint(b.s.at[thread])
		for i := range 3 {
			n = 31*n + uint(7*b.s.regs[thread][i]+b.counts[thread][i])
		}
	}
	for _, value := range b.s.mem {
		n = 5*n + uint(value)
	}
	return int(n % 1021)
}

// addState adds a state that is not there.
func (w *spreadWalk) addState(b plainSpread) {
	room := &w.rooms[roomOf(b)]
	for _, other := range *room {
		if other == b {
			return
		}
	}
	*room = append(*room, b)
	w.states = append(w.states, b)
}

// spreadWalkOf returns what all steps of a program come to. They come to finitely many states, and each is gone on from once.
func spreadWalkOf(p impl.Program) *spreadWalk {
	w := &spreadWalk{}
	w.addState(plainSpread{s: plainBegin()})
	for i := 0; i < len(w.states); i++ {
		ended := true
		for step := range 4 * len(p.Threads) {
			if next, ok := plainSpreadStep(p, w.states[i], step); ok {
				ended = false
				w.addState(next)
			}
		}
		if ended {
			w.outcomes.addOutcome(plainOutcome(p, w.states[i].s))
		}
	}
	return w
}

// plainNote is a store: its value, the index that its view has at each place, and whether it is glued.
type plainNote struct {
	value int
	view  [3]int
	glued bool
}

// plainViewed is a state whose places have noughts; for each place how many stores it has, and these, in order; and views: three of threads, two of locks, two of channels, and that of the fences. What it has not stays 0.
type plainViewed struct {
	s      plainState
	counts [3]int
	notes  [3][10]plainNote
	views  [8][3]int
}

// The first view of locks and of channels, and that of the fences.
const (
	ofLocks  = 3
	ofChans  = 5
	ofFences = 7
)

func plainViewBegin() plainViewed {
	return plainViewed{s: plainBegin(), counts: [3]int{1, 1, 1}}
}

// plainView returns a view as an array.
func plainView(view []int) [3]int { return [3]int{view[0], view[1], view[2]} }

// plainViewedOf returns a state that has the right lengths as arrays.
func plainViewedOf(s impl.Viewed) plainViewed {
	v := plainViewed{s: plainOf(s.State)}
	for place, notes := range s.Notes {
		v.counts[place] = len(notes)
		for i, n := range notes {
			v.notes[place][i] = plainNote{n.Value, plainView(n.View), n.Glued}
		}
	}
	for i, view := range s.Views {
		v.views[i] = plainView(view)
	}
	for i := range 2 {
		v.views[ofLocks+i] = plainView(s.Locks[i])
		v.views[ofChans+i] = plainView(s.Chans[i])
	}
	v.views[ofFences] = plainView(s.Fence)
	return v
}

// viewLists returns some views as lists.
func viewLists(views [][3]int) [][]int {
	list := [][]int{}
	for _, view := range views {
		list = append(list, []int{view[0], view[1], view[2]})
	}
	return list
}

// viewedOf returns a plain state of so many threads as lists.
func viewedOf(v plainViewed, threads int) impl.Viewed {
	s := impl.Viewed{State: stateOf(v.s, threads)}
	for place, count := range v.counts {
		notes := []impl.Note{}
		for _, n := range v.notes[place][:count] {
			notes = append(notes, impl.Note{Value: n.value, View: viewLists([][3]int{n.view})[0], Glued: n.glued})
		}
		s.Notes = append(s.Notes, notes)
	}
	s.Views = viewLists(v.views[:threads])
	s.Locks = viewLists(v.views[ofLocks:ofChans])
	s.Chans = viewLists(v.views[ofChans:ofFences])
	s.Fence = viewLists(v.views[ofFences:])[0]
	return s
}

// plainWays returns the ways of the next statement of a thread.
func plainWays(p impl.Program, v plainViewed, thread int) []int {
	if thread < 0 || thread >= len(p.Threads) {
		return nil
	}
	if _, ok := plainStep(p, v.s, thread); !ok {
		return nil
	}
	st := p.Threads[thread][v.s.at[thread]]
	place, reads := plainThing(st)
	if place < 0 || place > 2 {
		return []int{0}
	}
	ways := []int{}
	for i := range v.counts[place] {
		last := i == v.counts[place]-1
		if i >= v.views[thread][place] && (reads || last || !v.notes[place][i+1].glued) {
			ways = append(ways, i)
		}
	}
	return ways
}

// plainJoin returns a view with the greater indexes of two.
func plainJoin(a [3]int, b [3]int) [3]int {
	for place := range 3 {
		if b[place] > a[place] {
			a[place] = b[place]
		}
	}
	return a
}

// plainPut returns the state with a store more right behind one, all indexes behind that moved on; its view is that of its thread then if it is strong.
func plainPut(v plainViewed, thread int, place int, behind int, n plainNote, isStrong bool) plainViewed {
	for i := range v.views {
		if v.views[i][place] > behind {
			v.views[i][place]++
		}
	}
	for other := range 3 {
		for i := range v.counts[other] {
			if v.notes[other][i].view[place] > behind {
				v.notes[other][i].view[place]++
			}
		}
	}
	v.views[thread][place] = behind + 1
	n.view[place] = behind + 1
	if isStrong {
		n.view = v.views[thread]
	}
	for i := v.counts[place]; i > behind+1; i-- {
		v.notes[place][i] = v.notes[place][i-1]
	}
	v.notes[place][behind+1] = n
	v.counts[place]++
	return v
}

// plainSee returns the state behind a thread's reading a store, strongly or not.
func plainSee(v plainViewed, thread int, place int, i int, isStrong bool) plainViewed {
	v.views[thread][place] = i
	if isStrong {
		v.views[thread] = plainJoin(v.views[thread], v.notes[place][i].view)
	}
	return v
}

// plainMeet returns the state in which a thread and another view have what both had.
func plainMeet(v plainViewed, thread int, other int) plainViewed {
	v.views[thread] = plainJoin(v.views[thread], v.views[other])
	v.views[other] = v.views[thread]
	return v
}

// plainViewStep returns the state behind the next statement of a thread in a way, and whether it can be done.
func plainViewStep(p impl.Program, v plainViewed, thread int, way int) (plainViewed, bool) {
	if !hasNumber(plainWays(p, v, thread), way) || v.counts[0] > 9 || v.counts[1] > 9 || v.counts[2] > 9 {
		return v, false
	}
	st := p.Threads[thread][v.s.at[thread]]
	regs := v.s.regs[thread]
	v.s, _ = plainStep(p, v.s, thread)
	v.s.mem = [3]int{}
	switch st.Kind {
	case 1:
		v.s.regs[thread][st.A] = v.notes[st.B][way].value
		v = plainSee(v, thread, st.B, way, st.Strong)
	case 2:
		v = plainPut(v, thread, st.A, way, plainNote{value: plainSum(regs, st.B, st.C)}, st.Strong)
	case 3:
		v.s.regs[thread][st.A] = v.notes[st.B][way].value
		v = plainPut(plainSee(v, thread, st.B, way, true), thread, st.B, way, plainNote{value: st.C, glued: true}, true)
	case 4:
		old := v.notes[st.B][way].value
		v.s.regs[thread][st.A] = old
		v = plainPut(plainSee(v, thread, st.B, way, true), thread, st.B, way, plainNote{value: (old + st.C) % 4, glued: true}, true)
	case 5:
		v = plainMeet(v, thread, ofFences)
	case 6:
		v.views[thread] = plainJoin(v.views[thread], v.views[ofLocks+st.A])
	case 7:
		v.views[ofLocks+st.A] = v.views[thread]
	case 8:
		v = plainMeet(v, thread, ofChans+st.A)
	case 9:
		v = plainMeet(v, thread, ofChans+st.B)
	}
	return v, true
}

// plainViewOutcome returns what a state has: as places, the values of the last stores.
func plainViewOutcome(p impl.Program, v plainViewed) impl.Outcome {
	for place, count := range v.counts {
		v.s.mem[place] = v.notes[place][count-1].value
	}
	return plainOutcome(p, v.s)
}

// viewWalk is what statements on the machine with views come to: states, each once, also in rooms by a number that hangs on what they have, and outcomes, each once and in order.
type viewWalk struct {
	states   []plainViewed
	rooms    [4093][]int
	outcomes walk
}

// viewedRoom returns the number of a state's room.
func viewedRoom(v plainViewed) int {
	n := uint(0)
	for thread := range 3 {
		n = 7*n + uint(v.s.at[thread])
		for i := range 3 {
			n = 31*n + uint(7*v.s.regs[thread][i]+v.views[thread][i])
		}
	}
	for place, count := range v.counts {
		for i := range count {
			note := v.notes[place][i]
			n = 29*n + uint(note.value+5*note.view[0]+3*note.view[1]+7*note.view[2])
		}
	}
	return int(n % 4093)
}

// addState adds a state that is not there.
func (w *viewWalk) addState(v plainViewed) {
	room := &w.rooms[viewedRoom(v)]
	for _, i := range *room {
		if w.states[i] == v {
			return
		}
	}
	*room = append(*room, len(w.states))
	w.states = append(w.states, v)
}

// viewWalkOf returns what all statements of a program, in all ways, come to. They come to finitely many states, and each is gone on from once.
func viewWalkOf(p impl.Program) *viewWalk {
	w := &viewWalk{}
	w.addState(plainViewBegin())
	for i := 0; i < len(w.states); i++ {
		ended := true
		for thread := range p.Threads {
			for _, way := range plainWays(p, w.states[i], thread) {
				ended = false
				next, _ := plainViewStep(p, w.states[i], thread, way)
				w.addState(next)
			}
		}
		if ended {
			w.outcomes.addOutcome(plainViewOutcome(p, w.states[i]))
		}
	}
	return w
}

// plainReader reports whether a statement reads a place, and plainWriter whether it writes one.
func plainReader(st impl.Stmt) bool { return st.Kind == 1 || st.Kind == 3 || st.Kind == 4 }
func plainWriter(st impl.Stmt) bool { return st.Kind == 2 || st.Kind == 3 || st.Kind == 4 }

// plainStrong reports whether a statement is strong, a swap or a sum.
func plainStrong(st impl.Stmt) bool { return st.Strong || st.Kind == 3 || st.Kind == 4 }

// plainPlace returns the place of a statement, or -1.
func plainPlace(st impl.Stmt) int {
	if thing, _ := plainThing(st); thing < 3 {
		return thing
	}
	return -1
}

// plainSimple reports whether a program, which is one, is simple.
func plainSimple(p impl.Program) bool {
	placed := 0
	for _, stmts := range p.Threads {
		for _, st := range stmts {
			if st.Kind >= 5 && st.Kind <= 9 {
				return false
			}
			if plainPlace(st) >= 0 {
				placed++
			}
		}
	}
	return placed <= 5
}

// plainTale is what an execution tells: its events, from which one each reads, what each wrote, and the state behind them, whose places have noughts.
type plainTale struct {
	s      plainState
	events []impl.Event
	from   []int
	wrote  []int
}

// plainMayRead reports whether a statement that is done next may read from an event.
func plainMayRead(t plainTale, st impl.Stmt, from int) bool {
	if from == -1 {
		return true
	}
	if !plainReader(st) || from < 0 || from >= len(t.events) {
		return false
	}
	return plainWriter(t.events[from].Stmt) && plainPlace(t.events[from].Stmt) == plainPlace(st)
}

// plainTell returns what is told with the next statement of a thread, which reads from an event, and whether that can be.
func plainTell(p impl.Program, t plainTale, thread int, from int) (plainTale, bool) {
	if thread < 0 || thread >= len(p.Threads) || t.s.at[thread] == len(p.Threads[thread]) {
		return t, false
	}
	at := t.s.at[thread]
	st := p.Threads[thread][at]
	if !plainMayRead(t, st, from) {
		return t, false
	}
	read, wrote := 0, 0
	if from >= 0 {
		read = t.wrote[from]
	}
	regs := t.s.regs[thread]
	s, _ := plainStep(p, t.s, thread)
	s.mem = [3]int{}
	if plainReader(st) {
		s.regs[thread][st.A] = read
	}
	switch st.Kind {
	case 2:
		wrote = plainSum(regs, st.B, st.C)
	case 3:
		wrote = st.C
	case 4:
		wrote = (read + st.C) % 4
	}
	events := append(append([]impl.Event{}, t.events...), impl.Event{Thread: thread, At: at, Stmt: st})
	return plainTale{s, events, longer(t.from, from), longer(t.wrote, wrote)}, true
}

// plainEnded reports whether all threads are done.
func plainEnded(p impl.Program, t plainTale) bool {
	for thread, stmts := range p.Threads {
		if t.s.at[thread] < len(stmts) {
			return false
		}
	}
	return true
}

// plainWriters returns the indexes of the events that write a place.
func plainWriters(t plainTale, place int) []int {
	list := []int{}
	for i, e := range t.events {
		if plainWriter(e.Stmt) && plainPlace(e.Stmt) == place {
			list = append(list, i)
		}
	}
	return list
}

// plainTold returns what an execution tells, and whether it is one of a program, which is one.
func plainTold(p impl.Program, e impl.Exec) (plainTale, bool) {
	t := plainTale{s: plainBegin()}
	if !plainSimple(p) || len(e.Order) != len(e.From) || len(e.Mods) != 3 {
		return t, false
	}
	for i, thread := range e.Order {
		next, ok := plainTell(p, t, thread, e.From[i])
		if !ok {
			return t, false
		}
		t = next
	}
	for place, mods := range e.Mods {
		writers := plainWriters(t, place)
		if len(mods) != len(writers) {
			return t, false
		}
		for _, i := range writers {
			if !hasNumber(mods, i) {
				return t, false
			}
		}
	}
	return t, plainEnded(p, t)
}

// plainExecOutcome returns what an execution comes to.
func plainExecOutcome(p impl.Program, t plainTale, mods [][]int) impl.Outcome {
	for place, list := range mods {
		for _, i := range list {
			t.s.mem[place] = t.wrote[i]
		}
	}
	return plainOutcome(p, t.s)
}

// plainTells reports whether an event happens before a later one without a third one between them.
func plainTells(t plainTale, i int, k int) bool {
	a, b := t.events[i], t.events[k]
	if a.Thread == b.Thread {
		return true
	}
	return t.from[k] == i && plainStrong(a.Stmt) && plainStrong(b.Stmt)
}

// plainHappens returns for each two events whether the first one happens before the second one.
func plainHappens(t plainTale) [][]bool {
	rows := [][]bool{}
	for i := range t.events {
		rows = append(rows, make([]bool, len(t.events)))
		for k := i + 1; k < len(t.events); k++ {
			rows[i][k] = plainTells(t, i, k)
		}
	}
	for third := range rows {
		for i := range rows {
			for k := range rows {
				if rows[i][third] && rows[third][k] {
					rows[i][k] = true
				}
			}
		}
	}
	return rows
}

// plainNumbers returns for each event the numbers of the stores that it reads and writes; -1 where it reads or writes none.
func plainNumbers(t plainTale, mods [][]int) ([]int, []int) {
	reads, writes := []int{}, []int{}
	for range t.events {
		reads, writes = append(reads, -1), append(writes, -1)
	}
	for _, list := range mods {
		for at, i := range list {
			writes[i] = at + 1
		}
	}
	for k, e := range t.events {
		if plainReader(e.Stmt) {
			reads[k] = 0
			if t.from[k] >= 0 {
				reads[k] = writes[t.from[k]]
			}
		}
	}
	return reads, writes
}

// plainCoherent reports whether an execution is coherent.
func plainCoherent(t plainTale, mods [][]int) bool {
	reads, writes := plainNumbers(t, mods)
	happens := plainHappens(t)
	for i, a := range t.events {
		if plainReader(a.Stmt) && plainWriter(a.Stmt) && writes[i] != reads[i]+1 {
			return false
		}
		for k, b := range t.events {
			if !happens[i][k] || plainPlace(a.Stmt) < 0 || plainPlace(a.Stmt) != plainPlace(b.Stmt) {
				continue
			}
			if plainReader(b.Stmt) && (reads[k] < reads[i] || reads[k] < writes[i]) {
				return false
			}
			if plainWriter(b.Stmt) && (writes[k] <= reads[i] || writes[k] <= writes[i]) {
				return false
			}
		}
	}
	return true
}

// arrangements returns all orders of some numbers.
func arrangements(list []int) [][]int {
	if len(list) == 0 {
		return [][]int{{}}
	}
	all := [][]int{}
	for _, order := range arrangements(list[1:]) {
		for at := range len(list) {
			with := append(append([]int{}, order[:at]...), list[0])
			all = append(all, append(with, order[at:]...))
		}
	}
	return all
}

// modsOf returns all orders of the events that write each place.
func modsOf(t plainTale) [][][]int {
	all := [][][]int{}
	for _, first := range arrangements(plainWriters(t, 0)) {
		for _, second := range arrangements(plainWriters(t, 1)) {
			for _, third := range arrangements(plainWriters(t, 2)) {
				all = append(all, [][]int{first, second, third})
			}
		}
	}
	return all
}

// plainTalesFrom returns what all executions of a simple program tell that begin as one.
func plainTalesFrom(p impl.Program, t plainTale) []plainTale {
	if plainEnded(p, t) {
		return []plainTale{t}
	}
	list := []plainTale{}
	for thread := range p.Threads {
		for from := -1; from < len(t.events); from++ {
			if next, ok := plainTell(p, t, thread, from); ok {
				list = append(list, plainTalesFrom(p, next)...)
			}
		}
	}
	return list
}

// plainTales returns what all executions of a simple program tell, whatever the orders of their stores.
func plainTales(p impl.Program) []plainTale { return plainTalesFrom(p, plainTale{s: plainBegin()}) }

// execOfTale returns an execution that tells that, with orders of its stores.
func execOfTale(t plainTale, mods [][]int) impl.Exec {
	e := impl.Exec{From: t.from, Mods: mods}
	for _, event := range t.events {
		e.Order = append(e.Order, event.Thread)
	}
	return e
}
