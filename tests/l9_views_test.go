package tests

import (
	"math"
	"testing"

	"loop.example/wholethreads/impl"
)

// sameNotes reports whether two lists have the same stores.
func sameNotes(a []impl.Note, b []impl.Note) bool {
	if len(a) != len(b) {
		return false
	}
	for i := range a {
		if a[i].Value != b[i].Value || a[i].Glued != b[i].Glued || !sameNumbers(a[i].View, b[i].View) {
			return false
		}
	}
	return true
}

// sameNoteLists reports whether two lists have the same stores at each place.
func sameNoteLists(a [][]impl.Note, b [][]impl.Note) bool {
	if len(a) != len(b) {
		return false
	}
	for place := range a {
		if !sameNotes(a[place], b[place]) {
			return false
		}
	}
	return true
}

// sameViewed reports whether two states have the same lists, stores and views.
func sameViewed(a impl.Viewed, b impl.Viewed) bool {
	return sameState(a.State, b.State) && sameNoteLists(a.Notes, b.Notes) && sameOrderLists(a.Views, b.Views) &&
		sameOrderLists(a.Locks, b.Locks) && sameOrderLists(a.Chans, b.Chans) && sameNumbers(a.Fence, b.Fence)
}

// isNoViewed reports whether a state has nothing.
func isNoViewed(s impl.Viewed) bool { return sameViewed(s, impl.Viewed{}) }

// copiedLists returns lists that share no memory with others, and have the same.
func copiedLists(lists [][]int) [][]int {
	same := [][]int{}
	for _, list := range lists {
		same = append(same, append([]int{}, list...))
	}
	return same
}

// copiedNotes returns stores that share no memory with others, and are the same.
func copiedNotes(notes []impl.Note) []impl.Note {
	same := []impl.Note{}
	for _, n := range notes {
		same = append(same, impl.Note{Value: n.Value, View: append([]int{}, n.View...), Glued: n.Glued})
	}
	return same
}

// copiedViewed returns a state that shares no memory with another one, and has the same.
func copiedViewed(s impl.Viewed) impl.Viewed {
	same := impl.Viewed{State: copied(s.State), Views: copiedLists(s.Views), Locks: copiedLists(s.Locks), Chans: copiedLists(s.Chans), Fence: append([]int{}, s.Fence...)}
	for _, notes := range s.Notes {
		same.Notes = append(same.Notes, copiedNotes(notes))
	}
	return same
}

// otherViews returns the views of a state that are not of stores: of threads, locks, channels and fences.
func otherViews(s impl.Viewed) [][]int {
	list := append([][]int{}, s.Views...)
	list = append(append(list, s.Locks...), s.Chans...)
	return append(list, s.Fence)
}

// allViews returns all views of a state, those of stores behind the others.
func allViews(s impl.Viewed) [][]int {
	list := otherViews(s)
	for _, notes := range s.Notes {
		for _, n := range notes {
			list = append(list, n.View)
		}
	}
	return list
}

// withView returns a copy of a state with another one for a view, as allViews numbers them.
func withView(s impl.Viewed, which int, view []int) impl.Viewed {
	s = copiedViewed(s)
	for _, views := range [][][]int{s.Views, s.Locks, s.Chans} {
		if which >= 0 && which < len(views) {
			views[which] = view
		}
		which -= len(views)
	}
	if which == 0 {
		s.Fence = view
	}
	which--
	for _, notes := range s.Notes {
		if which >= 0 && which < len(notes) {
			notes[which].View = view
		}
		which -= len(notes)
	}
	return s
}

// withChanges returns a copy of a state with changes of its State.
func withChanges(s impl.Viewed, changes ...change) impl.Viewed {
	s = copiedViewed(s)
	s.State = changed(s.State, changes)
	return s
}

// noughtViews returns so many views of noughts.
func noughtViews(count int) [][]int {
	list := [][]int{}
	for range count {
		list = append(list, []int{0, 0, 0})
	}
	return list
}

// viewsBegin returns the state with which threads, as many as there are, would begin.
func viewsBegin(p impl.Program) impl.Viewed {
	s := impl.Viewed{State: beginAnyway(p), Views: noughtViews(len(p.Threads)), Locks: noughtViews(2), Chans: noughtViews(2), Fence: []int{0, 0, 0}}
	for _, view := range noughtViews(3) {
		s.Notes = append(s.Notes, []impl.Note{{View: view}})
	}
	return s
}

// notesAt returns so many stores at a place, whose views have noughts for the other places.
func notesAt(place int, count int) []impl.Note {
	list := []impl.Note{}
	for i := range count {
		view := []int{0, 0, 0}
		view[place] = i
		list = append(list, impl.Note{Value: (2*i + place) % 4, View: view})
	}
	return list
}

// withNotes returns a state like the beginning, but with so many stores at each place.
func withNotes(p impl.Program, counts ...int) impl.Viewed {
	s := viewsBegin(p)
	for place, count := range counts {
		s.Notes[place] = notesAt(place, count)
	}
	return s
}

func TestViewBegin(t *testing.T) {
	for _, p := range append(threadedPrograms(), allPrograms()...) {
		s, ok := impl.ViewBegin(p)
		if !ok || !sameViewed(s, viewsBegin(p)) || !impl.ViewOk(p, s) {
			t.Errorf("ViewBegin(%v) = %v, %v", p, s, ok)
		}
	}
}

func TestViewOkOfHowManyStores(t *testing.T) {
	for _, p := range threadedPrograms() {
		for place := range 3 {
			for count := range 40 {
				counts := []int{3, 1, 10}
				counts[place] = count
				if s := withNotes(p, counts...); impl.ViewOk(p, s) != (count >= 1 && count <= 10) {
					t.Errorf("%d stores at the place %d: ViewOk = %v", count, place, impl.ViewOk(p, s))
				}
			}
		}
		s := withNotes(p, 10, 10, 10)
		if !impl.ViewOk(p, s) {
			t.Errorf("10 stores at each place: ViewOk = false")
		}
	}
}

func TestViewOkAtEachValue(t *testing.T) {
	may := span{0, 3}
	p := programOf(lets(1), nil)
	for place := range 3 {
		for i := range 4 {
			for _, n := range []int{math.MinInt, -64, -2, -1, 0, 1, 2, 3, 4, 5, 8, 16, 64, math.MaxInt} {
				s := withNotes(p, 4, 4, 4)
				s.Notes[place][i].Value = n
				if impl.ViewOk(p, s) != may.has(n) {
					t.Errorf("the value %d of the store %d at %d: ViewOk = %v", n, i, place, !may.has(n))
				}
			}
			s := withNotes(p, 4, 4, 4)
			s.Notes[place][i].Glued = true
			if impl.ViewOk(p, s) != (i > 0) {
				t.Errorf("the store %d at %d is glued: ViewOk = %v", i, place, i == 0)
			}
		}
	}
}

func TestViewOkAtEachIndex(t *testing.T) {
	counts := []int{4, 1, 3}
	for _, p := range threadedPrograms() {
		s := withNotes(p, counts...)
		for which, view := range allViews(s) {
			store := which - len(otherViews(s))
			for place := range 3 {
				for _, n := range []int{math.MinInt, -64, -2, -1, 0, 1, 2, 3, 4, 5, 8, 16, 64, math.MaxInt} {
					may := span{0, counts[place] - 1}
					// Of the eight stores, four are at the first place, one is at the second one, and three are at the last one.
					if own := placeOf(store, counts); own == place {
						may = span{view[place], view[place]}
					}
					other := append([]int{}, view...)
					other[place] = n
					if impl.ViewOk(p, withView(s, which, other)) != may.has(n) {
						t.Errorf("%d threads: ViewOk with the view %d = %v is %v", len(p.Threads), which, other, !may.has(n))
					}
				}
			}
		}
	}
}

// placeOf returns the place of a store, if so many stand at each place, one place behind the other; -1 if there is none.
func placeOf(store int, counts []int) int {
	if store < 0 {
		return -1
	}
	for place, count := range counts {
		if store < count {
			return place
		}
		store -= count
	}
	return -1
}

func TestViewOkOfHowLongViews(t *testing.T) {
	for _, p := range threadedPrograms() {
		s := withNotes(p, 4, 1, 3)
		for which, view := range allViews(s) {
			for length := range 7 {
				other := append(append([]int{}, view...), 0, 0, 0)[:length]
				if impl.ViewOk(p, withView(s, which, other)) != (length == 3) {
					t.Errorf("%d threads: ViewOk with the view %d = %v is %v", len(p.Threads), which, other, length != 3)
				}
			}
			if impl.ViewOk(p, withView(s, which, nil)) {
				t.Errorf("%d threads: ViewOk without the view %d = true", len(p.Threads), which)
			}
		}
	}
}

func TestViewOkOfHowManyViews(t *testing.T) {
	for _, p := range threadedPrograms() {
		for count := range 9 {
			views := withNotes(p, 4, 1, 3)
			views.Views = noughtViews(count)
			locks := withNotes(p, 4, 1, 3)
			locks.Locks = noughtViews(count)
			chans := withNotes(p, 4, 1, 3)
			chans.Chans = noughtViews(count)
			if impl.ViewOk(p, views) != (count == len(p.Threads)) || impl.ViewOk(p, locks) != (count == 2) || impl.ViewOk(p, chans) != (count == 2) {
				t.Errorf("%d threads, %d views: ViewOk = %v, %v, %v", len(p.Threads), count, impl.ViewOk(p, views), impl.ViewOk(p, locks), impl.ViewOk(p, chans))
			}
			notes := viewsBegin(p)
			notes.Notes = [][]impl.Note{}
			for place := range count {
				notes.Notes = append(notes.Notes, notesAt(place%3, 1))
			}
			if impl.ViewOk(p, notes) != (count == 3) {
				t.Errorf("stores at %d places: ViewOk = %v", count, impl.ViewOk(p, notes))
			}
		}
	}
}

// ofPlaces returns a state like the beginning, but of so many places.
func ofPlaces(p impl.Program, places int) impl.Viewed {
	s := viewsBegin(p)
	s.Notes = [][]impl.Note{}
	for range places {
		s.Notes = append(s.Notes, []impl.Note{{View: make([]int, places)}})
	}
	for _, views := range [][][]int{s.Views, s.Locks, s.Chans} {
		for i := range views {
			views[i] = make([]int, places)
		}
	}
	s.Fence = make([]int, places)
	return s
}

func TestViewOkOfHowManyPlaces(t *testing.T) {
	for _, p := range threadedPrograms() {
		for places := range 8 {
			if s := ofPlaces(p, places); impl.ViewOk(p, s) != (places == 3) {
				t.Errorf("stores and views of %d places: ViewOk = %v", places, places != 3)
			}
		}
	}
}

func TestViewOkOfMem(t *testing.T) {
	for _, p := range threadedPrograms() {
		for place := range 3 {
			for n := -1; n <= 4; n++ {
				if s := withChanges(withNotes(p, 2, 3, 4), change{ofMem, place, n}); impl.ViewOk(p, s) != (n == 0) {
					t.Errorf("with %d as the place %d: ViewOk = %v", n, place, n != 0)
				}
			}
		}
	}
}

func TestViewOkOfWhatNoStatementsComeTo(t *testing.T) {
	p := programOf(fences(1), nil)
	s := withNotes(p, 3, 2, 10)
	s.State = impl.State{At: []int{1, 0}, Regs: []int{3, 1, 2, 3, 0, 1}, Mem: []int{0, 0, 0}, Owner: []int{1, 1}, Chan: []int{3, -1}}
	s.Views = [][]int{{2, 1, 9}, {0, 0, 5}}
	s.Locks = [][]int{{2, 0, 0}, {0, 1, 9}}
	s.Chans = [][]int{{1, 1, 1}, {0, 0, 9}}
	s.Fence = []int{2, 1, 9}
	// The store of the beginning may have another value, and know of others; all others may be glued.
	s.Notes[0][0] = impl.Note{Value: 3, View: []int{0, 1, 9}}
	s.Notes[0][1] = impl.Note{Value: 3, View: []int{1, 1, 9}, Glued: true}
	s.Notes[0][2] = impl.Note{Value: 3, View: []int{2, 0, 0}, Glued: true}
	if !impl.ViewOk(p, s) {
		t.Errorf("ViewOk(%v) = false", s)
	}
}

// brokenViewed returns what are no states of a program, but nearly one.
func brokenViewed(p impl.Program, s impl.Viewed) []impl.Viewed {
	list := []impl.Viewed{{}, {State: s.State}}
	for _, state := range brokenFrom(p, s.State) {
		broken := copiedViewed(s)
		broken.State = state
		list = append(list, broken)
	}
	for place := range 3 {
		list = append(list, withChanges(s, change{ofMem, place, 1}))
		for _, notes := range [][]impl.Note{nil, {}, notesAt(place, 11), notesAt(place, 64), {{View: []int{1, 1, 1}}}, {{View: []int{0, 0, 0}, Glued: true}}, {{Value: 4, View: []int{0, 0, 0}}}, {{}}} {
			broken := copiedViewed(s)
			broken.Notes[place] = notes
			list = append(list, broken)
		}
	}
	for which := range allViews(s) {
		for _, view := range [][]int{nil, {}, {0}, {0, 0}, {0, 0, 0, 0}, {-1, 0, 0}, {0, -1, 0}, {0, 0, -1}, {11, 0, 0}, {0, math.MaxInt, 0}, {0, 0, math.MinInt}} {
			list = append(list, withView(s, which, view))
		}
	}
	for count := range 6 {
		broken := []impl.Viewed{copiedViewed(s), copiedViewed(s), copiedViewed(s), copiedViewed(s)}
		broken[0].Views = noughtViews(count)
		broken[1].Locks = noughtViews(count)
		broken[2].Chans = noughtViews(count)
		broken[3].Notes = append(append([][]impl.Note{}, s.Notes...), s.Notes...)[:count]
		for which, right := range []int{len(p.Threads), 2, 2, 3} {
			if count != right {
				list = append(list, broken[which])
			}
		}
	}
	return list
}

// checkNoViewed fails the test if there is an answer about what is no state of a program on the machine with views.
func checkNoViewed(t *testing.T, p impl.Program, s impl.Viewed) {
	t.Helper()
	o, has := impl.ViewOutcome(p, s)
	if impl.ViewOk(p, s) || has || !isNoOutcome(o) {
		t.Errorf("of %v, %v: ViewOk = %v, ViewOutcome = %v, %v", p, s, impl.ViewOk(p, s), o, has)
	}
	for thread := -1; thread <= 4; thread++ {
		if ways := impl.ViewWays(p, s, thread); len(ways) != 0 {
			t.Errorf("ViewWays(%v, %v, %d) = %v", p, s, thread, ways)
		}
		for way := -1; way <= 2; way++ {
			if next, ok := impl.ViewDo(p, s, thread, way); ok || !isNoViewed(next) {
				t.Errorf("ViewDo(%v, %v, %d, %d) = %v, %v", p, s, thread, way, next, ok)
			}
		}
	}
}

func TestViewedStatesThatAreNone(t *testing.T) {
	programs := append(threadedPrograms(), passedOn(), handOver(), manyReads(), lostUpdate())
	for _, p := range programs {
		for _, s := range brokenViewed(p, viewsBegin(p)) {
			checkNoViewed(t, p, s)
		}
		for _, s := range brokenViewed(p, withNotes(p, 3, 1, 10)) {
			checkNoViewed(t, p, s)
		}
		for _, q := range programs {
			if s, _ := impl.ViewBegin(q); len(q.Threads) != len(p.Threads) {
				checkNoViewed(t, p, s)
			}
		}
	}
}

func TestViewsOfWhatIsNoProgram(t *testing.T) {
	for _, p := range storedNoPrograms() {
		if s, ok := impl.ViewBegin(p); ok || !isNoViewed(s) {
			t.Errorf("ViewBegin(%v) = %v, %v", p, s, ok)
		}
		checkNoViewed(t, p, impl.Viewed{})
		checkNoViewed(t, p, viewsBegin(p))
		checkNoViewed(t, p, withNotes(p, 2, 3, 4))
		for _, steps := range [][][]int{nil, {}, {{0, 0}}, {{1, 0}}, {{-1, 0}}, {{}}, {{0, 0}, {1, 0}}} {
			if s, ok := impl.ViewPlay(p, steps); ok || !isNoViewed(s) {
				t.Errorf("ViewPlay(%v, %v) = %v, %v", p, steps, s, ok)
			}
		}
		if list := impl.ViewOutcomes(p); len(list) != 0 {
			t.Errorf("ViewOutcomes(%v) = %v", p, list)
		}
	}
}

// gluedNotes returns stores at a place, of which some are glued.
func gluedNotes(place int, glued ...bool) []impl.Note {
	list := notesAt(place, len(glued))
	for i := range list {
		list[i].Glued = glued[i]
	}
	return list
}

// swapAt returns a swap of what a place has.
func swapAt(place int, value int) impl.Stmt {
	return impl.Stmt{Kind: impl.StSwap, A: 1, B: place, C: value}
}

func TestViewWaysAtPlaces(t *testing.T) {
	alone, third, all := []bool{false}, []bool{false, false, true, false}, []bool{false, true, true, true}
	none := []bool{false, false, false, false, false, false, false, false, false, false}
	cases := []struct {
		name  string
		glued []bool
		view  int
		reads []int
		puts  []int
	}{
		{"at the store of the beginning alone", alone, 0, []int{0}, []int{0}},
		{"at the first store, the third one glued", third, 0, []int{0, 1, 2, 3}, []int{0, 2, 3}},
		{"right ahead of a store that is glued", third, 1, []int{1, 2, 3}, []int{2, 3}},
		{"at a store that is glued", third, 2, []int{2, 3}, []int{2, 3}},
		{"at the last store", third, 3, []int{3}, []int{3}},
		{"at the first store, all others glued", all, 0, []int{0, 1, 2, 3}, []int{3}},
		{"between stores that are glued", all, 2, []int{2, 3}, []int{3}},
		{"at the last store, which is glued", all, 3, []int{3}, []int{3}},
		{"at the first of ten stores", none, 0, []int{0, 1, 2, 3, 4, 5, 6, 7, 8, 9}, []int{0, 1, 2, 3, 4, 5, 6, 7, 8, 9}},
		{"between ten stores", none, 7, []int{7, 8, 9}, []int{7, 8, 9}},
		{"at the last of ten stores", none, 9, []int{9}, []int{9}},
	}
	for _, c := range cases {
		for place := range 3 {
			reads := threadOf(loadInto(0, place), loadInto(2, place), strong(loadInto(1, place)))
			puts := threadOf(storeTo(place, 0), storeTo(place, 3), impl.Stmt{Kind: impl.StStore, A: place, B: 2, C: 1}, strong(storeTo(place, 1)), swapAt(place, 0), swapAt(place, 2), addOf(place))
			for thread := range 2 {
				for i, st := range append(reads, puts...) {
					p := programOf(threadOf(st), threadOf(st))
					s := withNotes(p, 4, 5, 6)
					s.Notes[place] = gluedNotes(place, c.glued...)
					s.Views[thread][place] = c.view
					want := c.puts
					if i < len(reads) {
						want = c.reads
					}
					if ways := impl.ViewWays(p, s, thread); !sameNumbers(ways, want) {
						t.Errorf("%s: ViewWays of the thread %d with %v = %v, want %v", c.name, thread, st, ways, want)
					}
				}
			}
		}
	}
}

func TestViewWaysWithoutPlaces(t *testing.T) {
	stmts := append(lets(48), fences(1)[0], lockOf(0), lockOf(1), unlockOf(0), unlockOf(1), sendTo(0), sendTo(1), getFrom(0), getFrom(1), skipOver(0, 1), skipOver(2, 6))
	for _, st := range stmts {
		p := programOf(threadOf(st), threadOf(st))
		for thread := range 2 {
			s := withNotes(p, 3, 4, 5)
			s.Views[thread] = []int{1, 2, 4}
			s.Notes[0] = gluedNotes(0, false, true, true)
			if st.Kind == impl.StUnlock {
				s = withChanges(s, change{ofOwner, st.A, thread})
			}
			if st.Kind == impl.StGet {
				s = withChanges(s, change{ofChan, st.B, 2})
			}
			if ways := impl.ViewWays(p, s, thread); !sameNumbers(ways, []int{0}) {
				t.Errorf("ViewWays of the thread %d with %v = %v", thread, st, ways)
			}
		}
	}
}

func TestViewWaysOfThreadsThatWait(t *testing.T) {
	for _, c := range waitCases() {
		p := programOf(threadOf(c.s), threadOf(c.s))
		s := withNotes(p, 3, 4, 5)
		s.State = changed(filled(), append(c.changes, change{ofMem, 0, 0}, change{ofMem, 1, 0}, change{ofMem, 2, 0}))
		want := []int{}
		if c.want {
			want = []int{0}
		}
		next, ok := impl.ViewDo(p, s, 0, 0)
		if ways := impl.ViewWays(p, s, 0); !sameNumbers(ways, want) || ok != c.want || isNoViewed(next) == c.want {
			t.Errorf("%s: ViewWays = %v, ViewDo = %v, %v", c.name, ways, next, ok)
		}
	}
}

func TestViewWaysOfThreadsThatAreDoneOrNone(t *testing.T) {
	for _, p := range append(threadedPrograms(), passedOn(), programOf(storeAt(0)), programOf(storeAt(0), storeAt(1), storeAt(2))) {
		s := withNotes(p, 3, 4, 5)
		for _, thread := range noThreads(len(p.Threads)) {
			next, ok := impl.ViewDo(p, s, thread, 0)
			if ways := impl.ViewWays(p, s, thread); len(ways) != 0 || ok || !isNoViewed(next) {
				t.Errorf("of %d threads, the thread %d: ViewWays = %v, ViewDo = %v, %v", len(p.Threads), thread, ways, next, ok)
			}
		}
		for thread, stmts := range p.Threads {
			done := withChanges(s, change{ofAt, thread, len(stmts)})
			next, ok := impl.ViewDo(p, done, thread, 0)
			if ways := impl.ViewWays(p, done, thread); len(ways) != 0 || ok || !isNoViewed(next) {
				t.Errorf("of %d threads, %d being done: ViewWays = %v, ViewDo = %v, %v", len(p.Threads), thread, ways, next, ok)
			}
		}
	}
}

// viewText returns the figures of a view.
func viewText(view []int) string {
	text := ""
	for _, i := range view {
		text += "0123456789"[i : i+1]
	}
	return text
}

// noteText returns the value of a store, its view, and `g` if it is glued.
func noteText(n impl.Note) string {
	text := viewText([]int{n.Value}) + ":" + viewText(n.View)
	if n.Glued {
		return text + "g"
	}
	return text
}

// viewedText returns the stores at each place, and the views of threads, locks, channels and fences of a state.
func viewedText(s impl.Viewed) string {
	text := ""
	for _, notes := range s.Notes {
		for _, n := range notes {
			text += noteText(n) + " "
		}
		text += "| "
	}
	for _, views := range [][][]int{s.Views, s.Locks, s.Chans} {
		for _, view := range views {
			text += viewText(view) + " "
		}
		text += "| "
	}
	return text + viewText(s.Fence)
}

// noteOf returns a store of a value that has a view.
func noteOf(value int, view ...int) impl.Note { return impl.Note{Value: value, View: view} }

// glued returns a store as one that is glued.
func glued(n impl.Note) impl.Note {
	n.Glued = true
	return n
}

// knowing returns a state of two threads like the filled one, with stores at each place, and views of which no two are the same.
func knowing() impl.Viewed {
	noughts := []change{{ofMem, 0, 0}, {ofMem, 1, 0}, {ofMem, 2, 0}}
	return impl.Viewed{
		State: changed(filled(), noughts),
		Notes: [][]impl.Note{
			{noteOf(0, 0, 0, 0), noteOf(1, 1, 1, 0), glued(noteOf(2, 2, 0, 1)), noteOf(3, 3, 2, 0)},
			{noteOf(0, 0, 0, 0), noteOf(2, 1, 1, 1), noteOf(1, 3, 2, 0)},
			{noteOf(0, 0, 0, 0), noteOf(3, 2, 1, 1)},
		},
		Views: [][]int{{1, 0, 0}, {3, 2, 1}},
		Locks: [][]int{{2, 1, 0}, {0, 0, 1}},
		Chans: [][]int{{0, 2, 0}, {3, 0, 1}},
		Fence: []int{1, 1, 1},
	}
}

// The stores of the knowing state at each place, as text.
const (
	knowing0 = "0:000 1:110 2:201g 3:320 | "
	knowing1 = "0:000 2:111 1:320 | "
	knowing2 = "0:000 3:211 | "
	knowingN = knowing0 + knowing1 + knowing2
)

// viewCase is a statement, a way in which it is done in the knowing state, what is changed in the State, and the stores and views then.
type viewCase struct {
	name  string
	s     impl.Stmt
	way   int
	want  []change
	views string
}

func viewCases() []viewCase {
	return []viewCase{
		{"a let", impl.Stmt{Kind: impl.StLet, A: 2, B: 0, C: 1}, 0, []change{{ofRegs, 2, 2}}, knowingN + "100 321 | 210 001 | 020 301 | 111"},
		{"a skip over nothing", skipOver(0, 1), 0, nil, knowingN + "100 321 | 210 001 | 020 301 | 111"},
		{"a load of what it knows of", loadInto(2, 0), 1, []change{{ofRegs, 2, 1}}, knowingN + "100 321 | 210 001 | 020 301 | 111"},
		{"a load of what is glued", loadInto(0, 0), 2, []change{{ofRegs, 0, 2}}, knowingN + "200 321 | 210 001 | 020 301 | 111"},
		{"a load of the last store", loadInto(1, 0), 3, []change{{ofRegs, 1, 3}}, knowingN + "300 321 | 210 001 | 020 301 | 111"},
		{"a load of the store of the beginning", loadInto(1, 2), 0, []change{{ofRegs, 1, 0}}, knowingN + "100 321 | 210 001 | 020 301 | 111"},
		{"a load of another place", loadInto(1, 1), 1, []change{{ofRegs, 1, 2}}, knowingN + "110 321 | 210 001 | 020 301 | 111"},
		{"a strong load of what it knows of", strong(loadInto(2, 0)), 1, []change{{ofRegs, 2, 1}}, knowingN + "110 321 | 210 001 | 020 301 | 111"},
		{"a strong load of what is glued", strong(loadInto(0, 0)), 2, []change{{ofRegs, 0, 2}}, knowingN + "201 321 | 210 001 | 020 301 | 111"},
		{"a strong load of the last store", strong(loadInto(0, 0)), 3, []change{{ofRegs, 0, 3}}, knowingN + "320 321 | 210 001 | 020 301 | 111"},
		{"a strong load that tells of a store at another place", strong(loadInto(0, 1)), 2, []change{{ofRegs, 0, 1}}, knowingN + "320 321 | 210 001 | 020 301 | 111"},
		{"a strong load of the store of the beginning", strong(loadInto(0, 1)), 0, []change{{ofRegs, 0, 0}}, knowingN + "100 321 | 210 001 | 020 301 | 111"},
		{"a store behind all", storeTo(0, 2), 3, nil, "0:000 1:110 2:201g 3:320 2:400 | " + knowing1 + knowing2 + "400 321 | 210 001 | 020 301 | 111"},
		{"a store between others", storeTo(0, 2), 2, nil, "0:000 1:110 2:201g 2:300 3:420 | 0:000 2:111 1:420 | " + knowing2 + "300 421 | 210 001 | 020 401 | 111"},
		{"a store right behind that of the beginning", storeTo(1, 3), 0, nil, "0:000 1:120 2:201g 3:330 | 0:000 3:010 2:121 1:330 | 0:000 3:221 | 110 331 | 220 001 | 030 301 | 121"},
		{"a store of a sum", impl.Stmt{Kind: impl.StStore, A: 2, B: 2, C: 2}, 1, nil, knowing0 + knowing1 + "0:000 3:211 1:002 | 102 321 | 210 001 | 020 301 | 111"},
		{"a strong store behind all", strong(storeTo(1, 2)), 2, nil, knowing0 + "0:000 2:111 1:320 2:130 | " + knowing2 + "130 321 | 210 001 | 020 301 | 111"},
		{"a strong store between others", strong(storeTo(2, 0)), 0, nil, "0:000 1:110 2:202g 3:320 | 0:000 2:112 1:320 | 0:000 0:101 3:212 | 101 322 | 210 002 | 020 302 | 112"},
		{"a swap behind all", swapAt(0, 0), 3, []change{{ofRegs, 1, 3}}, "0:000 1:110 2:201g 3:320 0:420g | " + knowing1 + knowing2 + "420 321 | 210 001 | 020 301 | 111"},
		{"a swap of what a swap has put in", swapAt(0, 1), 2, []change{{ofRegs, 1, 2}}, "0:000 1:110 2:201g 1:301g 3:420 | 0:000 2:111 1:420 | " + knowing2 + "301 421 | 210 001 | 020 401 | 111"},
		{"a swap of the store of the beginning", swapAt(1, 2), 0, []change{{ofRegs, 1, 0}}, "0:000 1:120 2:201g 3:330 | 0:000 2:110g 2:121 1:330 | 0:000 3:221 | 110 331 | 220 001 | 030 301 | 121"},
		{"an add behind all", impl.Stmt{Kind: impl.StAdd, A: 2, B: 0, C: 3}, 3, []change{{ofRegs, 2, 3}}, "0:000 1:110 2:201g 3:320 2:420g | " + knowing1 + knowing2 + "420 321 | 210 001 | 020 301 | 111"},
		{"an add between others", impl.Stmt{Kind: impl.StAdd, A: 0, B: 1, C: 1}, 1, []change{{ofRegs, 0, 2}}, "0:000 1:110 2:201g 3:330 | 0:000 2:111 3:121g 1:330 | " + knowing2 + "121 331 | 210 001 | 030 301 | 111"},
		{"a fence", fences(1)[0], 0, nil, knowingN + "111 321 | 210 001 | 020 301 | 111"},
		{"a lock", lockOf(0), 0, []change{{ofOwner, 0, 0}}, knowingN + "210 321 | 210 001 | 020 301 | 111"},
		{"a send", impl.Stmt{Kind: impl.StSend, A: 0, B: 1, C: 1}, 0, []change{{ofChan, 0, 3}}, knowingN + "120 321 | 210 001 | 120 301 | 111"},
		{"a get", impl.Stmt{Kind: impl.StGet, A: 0, B: 1}, 0, []change{{ofRegs, 0, 2}, {ofChan, 1, -1}}, knowingN + "301 321 | 210 001 | 020 301 | 111"},
	}
}

func TestViewDoOfEachKind(t *testing.T) {
	for _, c := range viewCases() {
		p := programOf(append(threadOf(c.s), fences(2)...), fences(1))
		state := changed(knowing().State, append(c.want, change{ofAt, 0, 1}))
		next, ok := impl.ViewDo(p, knowing(), 0, c.way)
		if !ok || !sameState(next.State, state) || viewedText(next) != c.views || !impl.ViewOk(p, next) {
			t.Errorf("%s: ViewDo = %v, %v\n%s, want\n%s", c.name, next.State, ok, viewedText(next), c.views)
		}
	}
}

func TestViewDoOfTheLastThread(t *testing.T) {
	cases := []viewCase{
		{"unlocking hands its view on", unlockOf(1), 0, []change{{ofOwner, 1, -1}}, knowingN + "100 321 | 210 321 | 020 301 | 111"},
		{"a fence tells of more than it learns", fences(1)[0], 0, nil, knowingN + "100 321 | 210 001 | 020 301 | 321"},
		{"a send tells of more than it learns", sendTo(0), 0, []change{{ofChan, 0, 1}}, knowingN + "100 321 | 210 001 | 321 301 | 111"},
		{"a get tells of more than it learns", getFrom(1), 0, []change{{ofRegs, 4, 2}, {ofChan, 1, -1}}, knowingN + "100 321 | 210 001 | 020 321 | 111"},
		{"a lock tells of nothing", lockOf(0), 0, []change{{ofOwner, 0, 1}}, knowingN + "100 321 | 210 001 | 020 301 | 111"},
		{"a load", loadInto(2, 0), 3, []change{{ofRegs, 5, 3}}, knowingN + "100 321 | 210 001 | 020 301 | 111"},
		{"a store", storeTo(1, 1), 2, nil, knowing0 + "0:000 2:111 1:320 1:030 | " + knowing2 + "100 331 | 210 001 | 020 301 | 111"},
		{"a strong store", strong(storeTo(1, 1)), 2, nil, knowing0 + "0:000 2:111 1:320 1:331 | " + knowing2 + "100 331 | 210 001 | 020 301 | 111"},
		{"a swap", swapAt(2, 1), 1, []change{{ofRegs, 4, 3}}, knowing0 + knowing1 + "0:000 3:211 1:322g | 100 322 | 210 001 | 020 301 | 111"},
	}
	for _, c := range cases {
		p := programOf(fences(1), append(threadOf(c.s), fences(2)...))
		state := changed(knowing().State, append(c.want, change{ofAt, 1, 1}))
		next, ok := impl.ViewDo(p, knowing(), 1, c.way)
		if !ok || !sameState(next.State, state) || viewedText(next) != c.views || !impl.ViewOk(p, next) {
			t.Errorf("%s: ViewDo = %v, %v\n%s, want\n%s", c.name, next.State, ok, viewedText(next), c.views)
		}
	}
}

func TestViewDoOfWaysThatThereAreNot(t *testing.T) {
	for _, st := range append(goodStmts(), unlockOf(1)) {
		p := programOf(threadOf(st), threadOf(st))
		for thread := range 2 {
			ways := impl.ViewWays(p, knowing(), thread)
			for _, way := range []int{math.MinInt, -64, -2, -1, 0, 1, 2, 3, 4, 5, 9, 10, 64, math.MaxInt} {
				next, ok := impl.ViewDo(p, knowing(), thread, way)
				if ok != hasNumber(ways, way) || isNoViewed(next) == ok {
					t.Errorf("of the thread %d with %v, ViewWays = %v, and ViewDo with %d = %v, %v", thread, st, ways, way, next, ok)
				}
			}
		}
	}
}

func TestViewDoWithManyStores(t *testing.T) {
	stmts := threadOf(storeTo(0, 1), strong(storeTo(1, 1)), loadInto(0, 0), loadInto(0, 2), swapAt(1, 2), addOf(2), fences(1)[0], lets(1)[0], lockOf(0), sendTo(0), skipOver(0, 1))
	for _, st := range stmts {
		p := programOf(threadOf(st), nil)
		for place := range 3 {
			for count := 8; count <= 10; count++ {
				counts := []int{2, 2, 2}
				counts[place] = count
				s := withNotes(p, counts...)
				ways := impl.ViewWays(p, s, 0)
				if len(ways) == 0 {
					t.Errorf("%v, with %d stores at %d: ViewWays = %v", st, count, place, ways)
				}
				for _, way := range ways {
					next, ok := impl.ViewDo(p, s, 0, way)
					if ok != (count <= 9) || isNoViewed(next) == ok || ok && !impl.ViewOk(p, next) {
						t.Errorf("%v, with %d stores at %d: ViewDo with %d = %v, %v", st, count, place, way, next, ok)
					}
				}
			}
		}
	}
}

// draw is numbers that are drawn by multiplying and adding.
type draw struct {
	seed uint32
}

// below returns a number from 0 on that is less than a count.
func (d *draw) below(count int) int {
	d.seed = d.seed*1664525 + 1013904223
	return int(d.seed>>8) % count
}

// view returns a view of some of so many stores at each place.
func (d *draw) view(counts []int) []int {
	view := []int{}
	for _, count := range counts {
		view = append(view, d.below(count))
	}
	return view
}

// views returns so many views.
func (d *draw) views(counts []int, count int) [][]int {
	list := [][]int{}
	for range count {
		list = append(list, d.view(counts))
	}
	return list
}

// viewed returns a state with a State, and drawn stores, at most so many at each place, and views.
func (d *draw) viewed(s impl.State, most int) impl.Viewed {
	counts := []int{1 + d.below(most), 1 + d.below(most), 1 + d.below(most)}
	v := impl.Viewed{State: changed(s, []change{{ofMem, 0, 0}, {ofMem, 1, 0}, {ofMem, 2, 0}})}
	for place, count := range counts {
		notes := []impl.Note{}
		for i := range count {
			n := impl.Note{Value: d.below(4), View: d.view(counts), Glued: i > 0 && d.below(3) == 0}
			n.View[place] = i
			notes = append(notes, n)
		}
		v.Notes = append(v.Notes, notes)
	}
	v.Views = d.views(counts, len(s.At))
	v.Locks = d.views(counts, 2)
	v.Chans = d.views(counts, 2)
	v.Fence = d.view(counts)
	return v
}

// checkViewSteps fails the test if the ways in a state, what they come to, or what the state has, are not what is plainly told. It returns how many ways there are.
func checkViewSteps(t *testing.T, p impl.Program, v plainViewed) int {
	t.Helper()
	s := viewedOf(v, len(p.Threads))
	all := 0
	for thread := -1; thread <= len(p.Threads); thread++ {
		ways := plainWays(p, v, thread)
		if list := impl.ViewWays(p, s, thread); !sameNumbers(list, ways) {
			t.Fatalf("ViewWays(%v, %v, %d) = %v, want %v", p, s, thread, list, ways)
		}
		for way := -1; way <= max(v.counts[0], v.counts[1], v.counts[2]); way++ {
			want, ok := plainViewStep(p, v, thread, way)
			next, did := impl.ViewDo(p, s, thread, way)
			if did != ok || ok && !sameViewed(next, viewedOf(want, len(p.Threads))) || !ok && !isNoViewed(next) {
				t.Fatalf("ViewDo(%v, %v, %d, %d) = %v, %v, want %v, %v", p, s, thread, way, next, did, want, ok)
			}
		}
		all += len(ways)
	}
	if o, ok := impl.ViewOutcome(p, s); !ok || !sameOutcome(o, plainViewOutcome(p, v)) {
		t.Fatalf("ViewOutcome(%v, %v) = %v, %v", p, s, o, ok)
	}
	return all
}

func TestViewStepsOfEachStatement(t *testing.T) {
	d := &draw{91}
	ways := 0
	for _, st := range goodStmts() {
		first, last := programOf(threadOf(st, fences(1)[0]), nil, fences(1)), programOf(fences(2), nil, threadOf(st))
		for _, s := range statesOfThree() {
			for _, most := range []int{1, 3, 6, 9, 10} {
				ways += checkViewSteps(t, first, plainViewedOf(d.viewed(s, most)))
				ways += checkViewSteps(t, last, plainViewedOf(d.viewed(s, most)))
			}
		}
	}
	if ways < 10000 {
		t.Errorf("there are %d ways", ways)
	}
}

func TestViewSkip(t *testing.T) {
	d := &draw{92}
	for length := 1; length <= 4; length++ {
		for at := range length {
			for count := 1; count <= 6; count++ {
				for has := range 4 {
					stmts := fences(length)
					stmts[at] = skipOver(1, count)
					p := programOf(nil, stmts)
					s := d.viewed(beginWith(p, change{ofAt, 1, at}, change{ofRegs, 4, has}), 9)
					to := at + 1
					if has == 0 {
						to = min(at+1+count, length)
					}
					next, ok := impl.ViewDo(p, s, 1, 0)
					if want := withChanges(s, change{ofAt, 1, to}); !ok || !sameViewed(next, want) {
						t.Errorf("a skip over %d of %d at %d: ViewDo = %v, %v, want %v", count, length, at, next, ok, want)
					}
				}
			}
		}
	}
}

// swapThenStores returns a thread that swaps what another one swaps, and a third one that stores between.
func swapThenStores() impl.Program {
	return programOf(threadOf(swapAt(0, 1)), threadOf(swapAt(0, 2)), threadOf(storeTo(0, 3)))
}

func TestViewPlayExamples(t *testing.T) {
	stores := programOf(threadOf(storeTo(0, 1)), threadOf(storeTo(0, 2), storeTo(0, 3)), threadOf(loadInto(1, 0), loadInto(2, 0)))
	told := programOf(threadOf(storeOf(0), strong(storeOf(1))), threadOf(strong(loadInto(0, 1)), loadInto(1, 0)))
	cases := []struct {
		name  string
		p     impl.Program
		steps [][]int
		want  []change
		views string
	}{
		{"no steps", stores, nil, nil, "0:000 | 0:000 | 0:000 | 000 000 000 | 000 000 | 000 000 | 000"},
		{"no steps of one thread", programOf(nil), [][]int{}, nil, "0:000 | 0:000 | 0:000 | 000 | 000 000 | 000 000 | 000"},
		{"a store", stores, [][]int{{0, 0}}, []change{{ofAt, 0, 1}}, "0:000 1:100 | 0:000 | 0:000 | 100 000 000 | 000 000 | 000 000 | 000"},
		{"a store, and one behind it", stores, [][]int{{0, 0}, {1, 1}}, []change{{ofAt, 0, 1}, {ofAt, 1, 1}}, "0:000 1:100 2:200 | 0:000 | 0:000 | 100 200 000 | 000 000 | 000 000 | 000"},
		{"a store, and one ahead of it", stores, [][]int{{0, 0}, {1, 0}}, []change{{ofAt, 0, 1}, {ofAt, 1, 1}}, "0:000 2:100 1:200 | 0:000 | 0:000 | 200 100 000 | 000 000 | 000 000 | 000"},
		{"a store, and two ahead of it", stores, [][]int{{0, 0}, {1, 0}, {1, 1}}, []change{{ofAt, 0, 1}, {ofAt, 1, 2}}, "0:000 2:100 3:200 1:300 | 0:000 | 0:000 | 300 200 000 | 000 000 | 000 000 | 000"},
		{"a store between two", stores, [][]int{{1, 0}, {1, 1}, {0, 1}}, []change{{ofAt, 0, 1}, {ofAt, 1, 2}}, "0:000 2:100 1:200 3:300 | 0:000 | 0:000 | 200 300 000 | 000 000 | 000 000 | 000"},
		{"a store ahead of what is seen", stores, [][]int{{1, 0}, {2, 1}, {0, 0}, {2, 2}}, []change{{ofAt, 0, 1}, {ofAt, 1, 1}, {ofAt, 2, 2}, {ofRegs, 7, 2}, {ofRegs, 8, 2}}, "0:000 1:100 2:200 | 0:000 | 0:000 | 100 200 200 | 000 000 | 000 000 | 000"},
		{"a store, and loads of the beginning and of it", stores, [][]int{{0, 0}, {2, 0}, {2, 1}}, []change{{ofAt, 0, 1}, {ofAt, 2, 2}, {ofRegs, 8, 1}}, "0:000 1:100 | 0:000 | 0:000 | 100 000 100 | 000 000 | 000 000 | 000"},
		{"a swap of what another one has put in", swapThenStores(), [][]int{{0, 0}, {1, 1}}, []change{{ofAt, 0, 1}, {ofAt, 1, 1}, {ofRegs, 4, 1}}, "0:000 1:100g 2:200g | 0:000 | 0:000 | 100 200 000 | 000 000 | 000 000 | 000"},
		{"a store behind two swaps", swapThenStores(), [][]int{{0, 0}, {1, 1}, {2, 2}}, []change{{ofAt, 0, 1}, {ofAt, 1, 1}, {ofAt, 2, 1}, {ofRegs, 4, 1}}, "0:000 1:100g 2:200g 3:300 | 0:000 | 0:000 | 100 200 300 | 000 000 | 000 000 | 000"},
		{"swaps around a store", swapThenStores(), [][]int{{2, 0}, {0, 0}, {1, 2}}, []change{{ofAt, 0, 1}, {ofAt, 1, 1}, {ofAt, 2, 1}, {ofRegs, 4, 3}}, "0:000 1:100g 3:200 2:300g | 0:000 | 0:000 | 100 300 200 | 000 000 | 000 000 | 000"},
		{"a strong store that is strongly seen", told, [][]int{{0, 0}, {0, 0}, {1, 1}, {1, 1}}, []change{{ofAt, 0, 2}, {ofAt, 1, 2}, {ofRegs, 3, 1}, {ofRegs, 4, 1}}, "0:000 1:100 | 0:000 1:110 | 0:000 | 110 110 | 000 000 | 000 000 | 000"},
		{"a strong store that is not seen", told, [][]int{{0, 0}, {0, 0}, {1, 0}, {1, 0}}, []change{{ofAt, 0, 2}, {ofAt, 1, 2}}, "0:000 1:100 | 0:000 1:110 | 0:000 | 110 000 | 000 000 | 000 000 | 000"},
	}
	for _, c := range cases {
		state := beginWith(c.p, c.want...)
		if s, ok := impl.ViewPlay(c.p, c.steps); !ok || !sameState(s.State, state) || viewedText(s) != c.views {
			t.Errorf("%s: ViewPlay = %v, %v\n%s, want\n%s", c.name, s.State, ok, viewedText(s), c.views)
		}
	}
	none := []struct {
		name  string
		p     impl.Program
		steps [][]int
	}{
		{"a store between a swap and what it read", swapThenStores(), [][]int{{0, 0}, {2, 0}}},
		{"a swap of what another one has swapped", swapThenStores(), [][]int{{0, 0}, {1, 0}}},
		{"a load of what is known to be older", told, [][]int{{0, 0}, {0, 0}, {1, 1}, {1, 0}}},
		{"a store ahead of the own one", stores, [][]int{{1, 0}, {1, 0}}},
		{"a load of what is not stored yet", told, [][]int{{1, 1}, {0, 0}, {0, 0}}},
		{"a thread that is done", stores, [][]int{{0, 0}, {0, 1}}},
		{"a thread that there is not", stores, [][]int{{0, 0}, {3, 0}}},
		{"a way that there is not, and one that there is", stores, [][]int{{0, -1}, {0, 0}}},
		{"a way other than nought of a fence", programOf(fences(1)), [][]int{{0, 1}}},
		{"what waits for itself", programOf(lockTwice(0)), [][]int{{0, 0}, {0, 0}}},
		{"an empty step", stores, [][]int{{}}},
		{"a step that is nil", stores, [][]int{nil}},
		{"a step of a thread alone", stores, [][]int{{0}}},
		{"a step of three numbers", stores, [][]int{{0, 0, 0}}},
		{"a step that is no pair behind one that is", stores, [][]int{{0, 0}, {1, 0, 0}}},
		{"a step that is no pair ahead of one that is", stores, [][]int{{0}, {1, 0}}},
	}
	for _, c := range none {
		if s, ok := impl.ViewPlay(c.p, c.steps); ok || !isNoViewed(s) {
			t.Errorf("%s: ViewPlay = %v, %v", c.name, s, ok)
		}
	}
}

// viewsInTurn returns the state behind steps, done one behind the other from the beginning on, and whether all can be.
func viewsInTurn(p impl.Program, steps [][]int) (impl.Viewed, bool) {
	s, ok := impl.ViewBegin(p)
	for _, step := range steps {
		if ok {
			s, ok = impl.ViewDo(p, s, step[0], step[1])
		}
	}
	return s, ok
}

// checkViewPlay fails the test if steps, played, do not come to what they come to one by one. It returns whether all can be done.
func checkViewPlay(t *testing.T, p impl.Program, steps [][]int) bool {
	t.Helper()
	want, ok := viewsInTurn(p, steps)
	s, did := impl.ViewPlay(p, steps)
	if did != ok || !sameViewed(s, want) || !ok && !isNoViewed(s) {
		t.Fatalf("ViewPlay(%v, %v) = %v, %v, want %v, %v", p, steps, s, did, want, ok)
	}
	return ok
}

// stepsUpTo returns all lists of at most so many pairs of a number from -1 to that of the threads, and one from -1 to a greatest way.
func stepsUpTo(length int, threads int, greatest int) [][][]int {
	list := [][][]int{{}}
	from := 0
	for range length {
		behind := len(list)
		for _, steps := range list[from:behind] {
			for thread := -1; thread <= threads; thread++ {
				for way := -1; way <= greatest; way++ {
					list = append(list, append(append([][]int{}, steps...), []int{thread, way}))
				}
			}
		}
		from = behind
	}
	return list
}

func TestViewPlayAgainstViewDo(t *testing.T) {
	played, failed := 0, 0
	for _, p := range []impl.Program{passedOn(), storesAndLoads(), lostUpdate(), handOver(), twoWays(), skipped(), overwritten(), ownLoads(), swapThenStores(), nineStores(), programOf(storeAt(0)), programOf(nil)} {
		for _, steps := range stepsUpTo(3, len(p.Threads), 2) {
			if checkViewPlay(t, p, steps) {
				played++
			} else {
				failed++
			}
		}
	}
	if played < 150 || failed < 1000 {
		t.Errorf("%d lists of steps can be done, and %d can not", played, failed)
	}
	for _, count := range []int{7, 100000} {
		steps := [][]int{}
		for range count {
			steps = append(steps, []int{0, 0})
		}
		if s, ok := impl.ViewPlay(programOf(fences(6)), steps); ok || !isNoViewed(s) {
			t.Errorf("ViewPlay of %d steps = %v, %v", count, s, ok)
		}
	}
}

// drawnViewSteps returns steps of a program that can be done one behind the other, till none can: each is drawn of those that can be done, and takes its thread further.
func drawnViewSteps(p impl.Program, d *draw) [][]int {
	steps := [][]int{}
	v := plainViewBegin()
	for {
		may := [][]int{}
		for thread := range p.Threads {
			for _, way := range plainWays(p, v, thread) {
				may = append(may, []int{thread, way})
			}
		}
		if len(may) == 0 {
			return steps
		}
		step := may[d.below(len(may))]
		steps = append(steps, step)
		v, _ = plainViewStep(p, v, step[0], step[1])
	}
}

func TestViewPlayOfLongLists(t *testing.T) {
	d := &draw{93}
	longest := 0
	for _, p := range append(bufPrograms(), largestPrograms()...) {
		steps := drawnViewSteps(p, d)
		for length := range len(steps) + 1 {
			if !checkViewPlay(t, p, steps[:length]) {
				t.Fatalf("ViewPlay(%v, %v) = false", p, steps[:length])
			}
		}
		for thread := -1; thread <= len(p.Threads); thread++ {
			more := append(append([][]int{}, steps...), []int{thread, 0})
			if s, ok := impl.ViewPlay(p, more); ok || !isNoViewed(s) {
				t.Fatalf("ViewPlay(%v, %v) = %v, %v", p, more, s, ok)
			}
		}
		longest = max(longest, len(steps))
	}
	if longest < 9 {
		t.Errorf("the longest list of steps has %d", longest)
	}
}

// nineStores returns three threads that store at one place, as often as may be.
func nineStores() impl.Program {
	second := threadOf(storeTo(0, 2), storeTo(0, 3), storeTo(0, 0), storeTo(0, 1), storeTo(0, 2), storeTo(0, 3))
	return programOf(threadOf(storeTo(0, 1)), second, threadOf(storeTo(0, 2), storeTo(0, 1)))
}

func TestStoresThatArePutInBetweenTheSameTwo(t *testing.T) {
	cases := []struct {
		name  string
		steps [][]int
		views string
	}{
		{"each right ahead of the first one", [][]int{{0, 0}, {1, 0}, {1, 1}, {1, 2}, {1, 3}, {1, 4}, {1, 5}, {2, 6}, {2, 7}},
			"0:000 2:100 3:200 0:300 1:400 2:500 3:600 2:700 1:800 1:900 | 0:000 | 0:000 | 900 600 800 | 000 000 | 000 000 | 000"},
		{"each right behind the others of its thread", [][]int{{2, 0}, {0, 0}, {1, 0}, {1, 1}, {2, 4}, {1, 2}, {1, 3}, {1, 4}, {1, 5}},
			"0:000 2:100 3:200 0:300 1:400 2:500 3:600 1:700 2:800 1:900 | 0:000 | 0:000 | 700 600 900 | 000 000 | 000 000 | 000"},
		{"each behind all", [][]int{{1, 0}, {1, 1}, {1, 2}, {0, 3}, {2, 4}, {1, 5}, {2, 6}, {1, 7}, {1, 8}},
			"0:000 2:100 3:200 0:300 1:400 2:500 1:600 1:700 2:800 3:900 | 0:000 | 0:000 | 400 900 700 | 000 000 | 000 000 | 000"},
		{"ahead of and behind each other", [][]int{{1, 0}, {1, 1}, {1, 2}, {1, 3}, {1, 4}, {1, 5}, {2, 0}, {0, 1}, {2, 1}},
			"0:000 2:100 1:200 1:300 2:400 3:500 0:600 1:700 2:800 3:900 | 0:000 | 0:000 | 300 900 200 | 000 000 | 000 000 | 000"},
	}
	for _, c := range cases {
		s, ok := impl.ViewPlay(nineStores(), c.steps)
		if !ok || viewedText(s) != c.views || !impl.ViewOk(nineStores(), s) {
			t.Errorf("%s: ViewPlay = %v\n%s, want\n%s", c.name, ok, viewedText(s), c.views)
		}
		checkViewPlay(t, nineStores(), c.steps)
	}
}

func TestViewOutcomeExamples(t *testing.T) {
	p := programOf(fences(1), fences(2))
	cases := []struct {
		name    string
		changes []change
		mem     []int
		done    []bool
	}{
		{"no thread is done", nil, []int{3, 1, 3}, []bool{false, false}},
		{"one thread is done", []change{{ofAt, 0, 1}}, []int{3, 1, 3}, []bool{true, false}},
		{"the other thread is done", []change{{ofAt, 1, 2}}, []int{3, 1, 3}, []bool{false, true}},
		{"both are done", []change{{ofAt, 0, 1}, {ofAt, 1, 2}}, []int{3, 1, 3}, []bool{true, true}},
	}
	for _, c := range cases {
		want := impl.Outcome{Regs: []int{1, 2, 3, 3, 0, 1}, Mem: c.mem, Done: c.done}
		if o, ok := impl.ViewOutcome(p, withChanges(knowing(), c.changes...)); !ok || !sameOutcome(o, want) {
			t.Errorf("%s: ViewOutcome = %v, %v, want %v", c.name, o, ok, want)
		}
	}
	// What the views know of, and whether a store is glued, is nothing to the outcome: the last store of each place is.
	for _, counts := range [][]int{{1, 1, 1}, {2, 3, 4}, {10, 1, 10}, {9, 9, 9}} {
		for place := range 3 {
			for value := range 4 {
				s := withNotes(p, counts...)
				want := impl.Outcome{Regs: make([]int, 6), Done: []bool{false, false}}
				s.Notes[place][counts[place]-1].Value = value
				for _, notes := range s.Notes {
					want.Mem = append(want.Mem, notes[len(notes)-1].Value)
				}
				if o, ok := impl.ViewOutcome(p, s); !ok || !sameOutcome(o, want) {
					t.Errorf("%v: ViewOutcome = %v, %v, want %v", s.Notes, o, ok, want)
				}
			}
		}
	}
}

// searchedViews returns the outcomes of the states to which a program comes by ViewWays and ViewDo, and in which there is no way.
func searchedViews(t *testing.T, p impl.Program) []impl.Outcome {
	t.Helper()
	begin, ok := impl.ViewBegin(p)
	if !ok {
		t.Fatalf("ViewBegin(%v) = %v", p, begin)
	}
	w := &viewWalk{}
	w.addState(plainViewedOf(begin))
	for i := 0; i < len(w.states); i++ {
		s := viewedOf(w.states[i], len(p.Threads))
		if !impl.ViewOk(p, s) {
			t.Fatalf("ViewOk(%v, %v) = false", p, s)
		}
		for thread := range p.Threads {
			for _, way := range impl.ViewWays(p, s, thread) {
				next, did := impl.ViewDo(p, s, thread, way)
				if !did {
					t.Fatalf("ViewDo(%v, %v, %d, %d) = false", p, s, thread, way)
				}
				w.addState(plainViewedOf(next))
			}
		}
		if checkViewSteps(t, p, w.states[i]) == 0 {
			o, _ := impl.ViewOutcome(p, s)
			w.outcomes.addOutcome(o)
		}
	}
	return w.outcomes.outcomes
}

// sumInto returns a store of what a register has at a place.
func sumInto(place int, r int) impl.Stmt { return impl.Stmt{Kind: impl.StStore, A: place, B: r} }

// laterSeen returns programs that come to states in which all is the same but for what threads know of, or for what stands at one place, so that they go on in other ways.
func laterSeen() []impl.Program {
	fence := fences(1)[0]
	ask, tell := threadOf(storeOf(0), fence, loadInto(1, 2), loadInto(0, 1)), threadOf(storeOf(1), fence, storeOf(2), loadInto(0, 0))
	take, give := threadOf(storeOf(0), lockOf(0), unlockOf(0), loadInto(1, 2), loadInto(0, 1)), threadOf(storeOf(1), lockOf(0), unlockOf(0), storeOf(2))
	list := []impl.Program{
		programOf(ask, tell), programOf(tell, ask), programOf(take, give), programOf(give, take),
		programOf(threadOf(storeTo(0, 1), storeTo(0, 2), storeTo(0, 1), storeOf(1)), threadOf(loadInto(0, 1), loadInto(1, 0), loadInto(2, 0))),
	}
	for place := range 3 {
		other := (place + 1) % 3
		list = append(list, programOf(threadOf(loadInto(0, other), sumInto(place, 0), loadInto(0, other)), storeAt(other)))
	}
	return list
}

// viewExamples returns programs of all that views hang on.
func viewExamples() []impl.Program {
	fence := fences(1)
	tell, ask := strong(storeOf(1)), strong(loadInto(0, 1))
	return append([]impl.Program{
		swapThenStores(), nineStores(),
		programOf(threadOf(storeOf(0), tell), threadOf(ask, loadInto(1, 0))),
		programOf(threadOf(storeOf(0), tell), threadOf(loadInto(0, 1), loadInto(1, 0))),
		programOf(threadOf(storeOf(0), storeOf(1)), threadOf(ask, loadInto(1, 0))),
		programOf(threadOf(storeOf(0), tell, storeTo(1, 2)), threadOf(ask, loadInto(1, 0))),
		programOf(threadOf(storeOf(0), tell), threadOf(swapAt(1, 2)), threadOf(ask, loadInto(1, 0))),
		programOf(threadOf(storeOf(0), addOf(1)), threadOf(addOf(1), loadInto(1, 0))),
		programOf(threadOf(storeOf(0)), threadOf(loadInto(0, 0), tell), threadOf(ask, loadInto(1, 0))),
		programOf(threadOf(storeOf(0), tell), threadOf(ask, strong(storeOf(2))), threadOf(strong(loadInto(0, 2)), loadInto(1, 0))),
		programOf(threadOf(addOf(0), addOf(0)), threadOf(addOf(0)), threadOf(storeTo(0, 2))),
		programOf(threadOf(swapAt(0, 1), storeTo(0, 2)), threadOf(swapAt(0, 3), loadInto(0, 0))),
		programOf(threadOf(storeTo(0, 1), loadInto(0, 0)), threadOf(storeTo(0, 2), loadInto(0, 0)), threadOf(loadInto(0, 0), loadInto(1, 0))),
		programOf(threadOf(storeOf(0), fence[0], storeOf(1)), threadOf(fence[0], loadInto(0, 1), fence[0], loadInto(1, 0))),
		programOf(threadOf(lockOf(0), storeOf(0), unlockOf(0), storeOf(1)), threadOf(loadInto(0, 1), lockOf(0), loadInto(1, 0), unlockOf(0))),
		programOf(threadOf(storeOf(0), sendTo(0), sendTo(0)), threadOf(getFrom(0), storeOf(1)), threadOf(getFrom(0), loadInto(0, 0), loadInto(2, 1))),
	}, append(laterSeen(), spreadExamples()...)...)
}

// viewStmts returns statements at two places, strong ones and swaps above all.
func viewStmts() []impl.Stmt {
	return threadOf(
		storeTo(0, 1), storeTo(0, 2), storeTo(1, 1), storeTo(1, 3), strong(storeTo(0, 3)), strong(storeTo(1, 2)), impl.Stmt{Kind: impl.StStore, A: 1, B: 0, C: 1, Strong: true},
		loadInto(0, 0), loadInto(1, 1), strong(loadInto(0, 0)), strong(loadInto(1, 0)), strong(loadInto(0, 1)), strong(loadInto(1, 1)),
		swapAt(0, 3), swapAt(1, 2), addOf(0), addOf(1), fences(1)[0], skipOver(0, 1),
	)
}

// viewPrograms returns programs of such statements.
func viewPrograms() []impl.Program {
	return mixedOf(viewStmts(), [][]int{{6}, {2, 2}, {3, 2}, {1, 2, 1}, {2, 2, 1}, {3, 3}, {4, 2}, {2, 2, 2}, {1, 3, 1}, {4, 4}, {2, 3, 2}}, 80, 94)
}

// weakOf returns so many programs with threads of each of such drawn stores, statements between and loads, strong ones and swaps among them, so that many have outcomes that no buffers come to.
func weakOf(counts [][][3]int, count int, d *draw) []impl.Program {
	parts := [][]impl.Stmt{
		threadOf(storeTo(0, 1), storeTo(1, 1), strong(storeTo(0, 2)), strong(storeTo(1, 2)), addOf(0), swapAt(1, 3)),
		threadOf(storeTo(2, 1), strong(storeTo(2, 2)), loadInto(2, 2), strong(loadInto(2, 2)), addOf(2), fences(1)[0], lockOf(0), sendTo(0), skipOver(0, 1)),
		threadOf(loadInto(0, 0), loadInto(1, 1), strong(loadInto(0, 0)), strong(loadInto(1, 1))),
	}
	list := []impl.Program{}
	for _, threads := range counts {
		for range count {
			p := impl.Program{}
			for _, each := range threads {
				stmts := []impl.Stmt{}
				for part, length := range each {
					for range length {
						stmts = append(stmts, parts[part][d.below(len(parts[part]))])
					}
				}
				p.Threads = append(p.Threads, stmts)
			}
			list = append(list, p)
		}
	}
	return list
}

// weakPrograms returns programs whose threads store first, and load then.
func weakPrograms() []impl.Program {
	return weakOf([][][3]int{
		{{1, 0, 1}, {1, 0, 1}}, {{1, 1, 1}, {1, 1, 1}}, {{2, 0, 0}, {0, 0, 2}}, {{2, 0, 0}, {0, 1, 2}}, {{2, 1, 1}, {1, 1, 2}}, {{2, 0, 2}, {2, 1, 1}},
		{{1, 0, 0}, {1, 1, 1}, {1, 0, 2}}, {{1, 1, 1}, {1, 0, 1}, {1, 0, 1}},
	}, 120, &draw{97})
}

func TestViewsAgainstASearchByViewDo(t *testing.T) {
	list := append(append(append(viewExamples(), fewPrograms()...), guardPrograms()...), passedPrograms()...)
	for _, p := range append(list, viewPrograms()...) {
		outcomes := searchedViews(t, p)
		if list := impl.ViewOutcomes(p); !sameOutcomes(list, outcomes) {
			t.Errorf("ViewOutcomes(%v) = %v, want %v", p, list, outcomes)
		}
	}
}

// viewCounts is how many programs there were, how many have outcomes that no buffers come to, how many have no races, and how many states they come to.
type viewCounts struct {
	all    int
	more   int
	free   int
	states int
}

// checkViews fails the test if what a program comes to on the machine with views is not what all statements, plainly done in all ways, come to; if an outcome of buffers for each place is missed; or if one is more without races. It counts the program.
func (n *viewCounts) checkViews(t *testing.T, p impl.Program) {
	t.Helper()
	w := viewWalkOf(p)
	list := impl.ViewOutcomes(p)
	if !sameOutcomes(list, w.outcomes.outcomes) {
		t.Fatalf("ViewOutcomes(%v) = %v, want %v", p, list, w.outcomes.outcomes)
	}
	spread := impl.SpreadOutcomes(p)
	if missed := moreThan(spread, list); len(missed) > 0 {
		t.Fatalf("%v has not the outcomes %v", p, missed)
	}
	free := impl.RaceFree(p)
	if free && !sameOutcomes(list, impl.Outcomes(p)) {
		t.Fatalf("%v has no races, and comes to %v", p, list)
	}
	n.all++
	n.states += len(w.states)
	if len(list) > len(spread) {
		n.more++
	}
	if free {
		n.free++
	}
}

func TestViewsAgainstAllWays(t *testing.T) {
	n := viewCounts{}
	list := append(append(append(viewExamples(), bufPrograms()...), lockPrograms()...), allPrograms()...)
	for _, p := range append(append(list, onePlacePrograms()...), viewPrograms()...) {
		n.checkViews(t, p)
	}
	if n.free < 500 || n.more < 50 {
		t.Errorf("of %d programs, %d have no races, and %d have outcomes that no buffers come to", n.all, n.free, n.more)
	}
}

func TestViewsOfStoresPassedOn(t *testing.T) {
	n := viewCounts{}
	for _, p := range append(append(passedPrograms(), crossedPrograms()...), weakPrograms()...) {
		n.checkViews(t, p)
	}
	if n.more < 150 || n.all-n.more < 200 {
		t.Errorf("of %d programs, %d have outcomes that no buffers come to", n.all, n.more)
	}
}

func TestViewsOfAllPairsOfShortThreads(t *testing.T) {
	n := viewCounts{}
	threads := shortThreads(threadOf(storeTo(0, 1), storeTo(1, 2), loadInto(0, 0), loadInto(1, 1), strong(storeTo(0, 2)), strong(loadInto(0, 1)), fences(1)[0], addOf(1), swapAt(0, 3), lockOf(0), unlockOf(0)))
	for _, a := range threads {
		for _, b := range threads {
			n.checkViews(t, programOf(a, b))
		}
	}
	if n.more < 20 || n.free < 1000 {
		t.Errorf("of %d programs, %d have outcomes that no buffers come to, and %d no races", n.all, n.more, n.free)
	}
}

func TestViewsOfStoresPassedOnWithAll(t *testing.T) {
	n := viewCounts{}
	threads := shortThreads(bufStmts())
	for i, a := range threads {
		other := threads[i*7%len(threads)]
		n.checkViews(t, passedOnWith(a, other))
		n.checkViews(t, storesAndLoadsWith(a, other))
		n.checkViews(t, storesAndLoadsWith(nil, a))
	}
	if n.more < 200 || n.all-n.more < 200 {
		t.Errorf("of %d programs, %d have outcomes that no buffers come to", n.all, n.more)
	}
}

func TestViewsOfTheLargestPrograms(t *testing.T) {
	n := viewCounts{}
	all := viewStmts()
	list := append(largestPrograms(), mixedOf(all, [][]int{{3, 3, 3}, {5, 4}, {2, 4, 3}}, 12, 95)...)
	// All at one place, so that as many stores stand there as may be.
	list = append(list, mixedOf(onePlaceStmts(1)[:10], [][]int{{3, 3, 3}, {4, 5}}, 12, 96)...)
	for _, p := range append(list, nineStores()) {
		n.checkViews(t, p)
	}
	if n.states < 30000 {
		t.Errorf("%d programs come to %d states", n.all, n.states)
	}
}

func TestViewOutcomesExamples(t *testing.T) {
	fence := fences(1)
	both, three := []bool{true, true}, []bool{true, true, true}
	ask, tell := strong(loadInto(0, 1)), strong(storeOf(1))
	older := loadInto(1, 0)
	take := threadOf(lockOf(0), unlockOf(0))
	// Neither load has the other thread's store.
	noughts := []impl.Outcome{{Regs: make([]int, 6), Mem: []int{1, 1, 0}, Done: both}}
	// The second store is seen, and the first one is not.
	second := []impl.Outcome{{Regs: []int{0, 0, 0, 1, 0, 0}, Mem: []int{1, 1, 0}, Done: both}}
	crossed := []impl.Outcome{{Regs: make([]int, 6), Mem: []int{1, 1, 0}, Done: both}}
	cases := []struct {
		name string
		p    impl.Program
		more []impl.Outcome
	}{
		{"each stores, and loads the other one's", storesAndLoads(), noughts},
		{"with a fence in the first thread", storesAndLoadsWith(fence, nil), noughts},
		{"with a fence in the second thread", storesAndLoadsWith(nil, fence), noughts},
		{"with a fence in both", storesAndLoadsWith(fence, fence), nil},
		{"with strong stores", programOf(threadOf(strong(storeOf(0)), loadInto(0, 1)), threadOf(strong(storeOf(1)), loadInto(0, 0))), noughts},
		{"with strong stores and loads", programOf(threadOf(strong(storeOf(0)), strong(loadInto(0, 1))), threadOf(strong(storeOf(1)), strong(loadInto(0, 0)))), noughts},
		{"with adds in their stead", programOf(threadOf(addOf(0), loadInto(0, 1)), threadOf(addOf(1), loadInto(0, 0))), noughts},
		{"with a strong store and a strong load of another place", storesAndLoadsWith(threadOf(strong(storeTo(2, 0))), threadOf(strong(loadInto(1, 2)))), noughts},
		{"with adds to another place in both", storesAndLoadsWith(threadOf(addOf(2)), threadOf(addOf(2))), nil},
		{"with an add to another place, and a fence", storesAndLoadsWith(threadOf(impl.Stmt{Kind: impl.StAdd, A: 0, B: 2, C: 0}), fence), noughts},
		{"with one lock in both", storesAndLoadsWith(take, take), nil},
		{"with two locks", storesAndLoadsWith(threadOf(lockOf(0)), threadOf(lockOf(1))), noughts},
		{"with sends to two channels", storesAndLoadsWith(threadOf(sendTo(0)), threadOf(sendTo(1))), noughts},
		{"with a send and a get", storesAndLoadsWith(threadOf(sendTo(0)), threadOf(getFrom(0))), nil},
		{"each loads its own store, too", ownLoads(), []impl.Outcome{{Regs: []int{0, 1, 0, 0, 1, 0}, Mem: []int{1, 1, 0}, Done: both}}},
		{"stores in order, and loads the other way round", passedOn(), second},
		{"with a strong second store", programOf(threadOf(storeOf(0), tell), threadOf(loadInto(0, 1), older)), second},
		{"with a strong load of it", programOf(threadOf(storeOf(0), storeOf(1)), threadOf(ask, older)), second},
		{"with both", programOf(threadOf(storeOf(0), tell), threadOf(ask, older)), nil},
		{"with a strong first store, and a strong load of it", programOf(threadOf(strong(storeOf(0)), storeOf(1)), threadOf(loadInto(0, 1), strong(older))), second},
		{"with a fence between the stores", passedOnWith(fence, nil), second},
		{"with a fence between the loads", passedOnWith(nil, fence), second},
		{"with a fence between both", passedOnWith(fence, fence), nil},
		{"with adds in the stead of the second store and the first load", programOf(threadOf(storeOf(0), addOf(1)), threadOf(addOf(1), older)), nil},
		{"with a strong store, and one that is not behind it", programOf(threadOf(storeOf(0), tell, storeTo(1, 2)), threadOf(ask, older)), []impl.Outcome{{Regs: []int{0, 0, 0, 2, 0, 0}, Mem: []int{1, 2, 0}, Done: both}}},
		{"with a swap of the strong store by a third thread", programOf(threadOf(storeOf(0), tell), threadOf(swapAt(1, 2)), threadOf(ask, older)), nil},
		{"with a skip over the second load", programOf(passedOn().Threads[0], threadOf(loadInto(0, 1), skipOver(0, 1), older)), second},
		{"behind a send", programOf(append(passedOn().Threads[0], sendTo(0)), append(threadOf(getFrom(0)), passedOn().Threads[1]...)), nil},
		{"under a lock", programOf(threadOf(lockOf(0), storeOf(0), storeOf(1), unlockOf(0)), threadOf(lockOf(0), loadInto(0, 1), older, unlockOf(0))), nil},
		{"under two locks", programOf(threadOf(lockOf(0), storeOf(0), storeOf(1), unlockOf(0)), threadOf(lockOf(1), loadInto(0, 1), older, unlockOf(1))), second},
		{"one store that is passed on", seenByOthers(), []impl.Outcome{{Regs: []int{0, 0, 0, 1, 0, 0, 1, 0, 0}, Mem: []int{1, 1, 0}, Done: three}}},
		{"one store that is passed on strongly", programOf(storeAt(0), threadOf(loadInto(0, 0), tell), threadOf(ask, older)), nil},
		{"one store that is passed on by two", programOf(threadOf(storeOf(0), tell), threadOf(ask, strong(storeOf(2))), threadOf(strong(loadInto(0, 2)), older)), nil},
		{"stores at two places, each the other way round", crossedStores(), crossed},
		{"with strong ones", programOf(threadOf(strong(storeTo(0, 1)), strong(storeTo(1, 2))), threadOf(strong(storeTo(1, 1)), strong(storeTo(0, 2)))), crossed},
		{"with a fence in one thread", programOf(threadOf(storeTo(0, 1), fence[0], storeTo(1, 2)), crossedStores().Threads[1]), crossed},
		{"with a fence in both threads", programOf(threadOf(storeTo(0, 1), fence[0], storeTo(1, 2)), threadOf(storeTo(1, 1), fence[0], storeTo(0, 2))), nil},
		{"stores at one place, and loads", programOf(threadOf(storeTo(0, 1), storeTo(0, 2)), threadOf(loadInto(0, 0), loadInto(1, 0))), nil},
		{"stores of two threads at one place, and loads", programOf(threadOf(storeTo(0, 1), loadInto(0, 0)), threadOf(storeTo(0, 2), loadInto(0, 0)), threadOf(loadInto(0, 0), loadInto(1, 0))), nil},
		{"adds at one place", programOf(threadOf(addOf(0), addOf(0)), threadOf(addOf(0))), nil},
		{"loads at one place, and stores of sums", lostUpdate(), nil},
		{"swaps and a store at one place", swapThenStores(), nil},
		{"swaps and stores at one place", programOf(threadOf(swapAt(0, 1), storeTo(0, 2)), threadOf(swapAt(0, 3), loadInto(0, 0))), nil},
		{"loads ahead of stores", programOf(threadOf(loadInto(0, 0), storeOf(1)), threadOf(loadInto(0, 1), storeOf(0))), nil},
		{"a place that only one thread touches", programOf(threadOf(storeOf(2), storeOf(0)), threadOf(loadInto(0, 0))), nil},
	}
	for _, c := range cases {
		list, orders := impl.ViewOutcomes(c.p), impl.Outcomes(c.p)
		if more := moreThan(list, orders); !sameOutcomes(more, c.more) || len(list) != len(orders)+len(more) {
			t.Errorf("%s: ViewOutcomes = %v, and more than Outcomes %v, want %v", c.name, list, more, c.more)
		}
	}
}

func TestViewOutcomesOfFew(t *testing.T) {
	both := []bool{true, true}
	cases := []struct {
		name string
		p    impl.Program
		want []impl.Outcome
	}{
		{"a thread without statements", programOf(nil), []impl.Outcome{{Regs: make([]int, 3), Mem: make([]int, 3), Done: []bool{true}}}},
		{"threads without statements", programOf(nil, nil, nil), []impl.Outcome{{Regs: make([]int, 9), Mem: make([]int, 3), Done: []bool{true, true, true}}}},
		{"a store", programOf(storeAt(2)), []impl.Outcome{{Regs: make([]int, 3), Mem: []int{0, 0, 1}, Done: []bool{true}}}},
		{"six stores", programOf(threadOf(storeTo(0, 1), storeTo(1, 2), storeTo(2, 3), storeTo(0, 2), storeTo(1, 1), storeTo(2, 1))), []impl.Outcome{{Regs: make([]int, 3), Mem: []int{2, 1, 1}, Done: []bool{true}}}},
		{"a store and what waits for ever", programOf(threadOf(storeOf(1), getFrom(0))), []impl.Outcome{{Regs: make([]int, 3), Mem: []int{0, 1, 0}, Done: []bool{false}}}},
		{"a swap, an add and a load", programOf(threadOf(swapAt(0, 3), impl.Stmt{Kind: impl.StAdd, A: 2, B: 0, C: 2}, loadInto(0, 0))), []impl.Outcome{{Regs: []int{1, 0, 3}, Mem: []int{1, 0, 0}, Done: []bool{true}}}},
		{"stores in order, and loads the other way round", passedOn(), []impl.Outcome{
			{Regs: make([]int, 6), Mem: []int{1, 1, 0}, Done: both},
			{Regs: []int{0, 0, 0, 0, 1, 0}, Mem: []int{1, 1, 0}, Done: both},
			{Regs: []int{0, 0, 0, 1, 0, 0}, Mem: []int{1, 1, 0}, Done: both},
			{Regs: []int{0, 0, 0, 1, 1, 0}, Mem: []int{1, 1, 0}, Done: both},
		}},
		{"stores at two places, each the other way round", crossedStores(), []impl.Outcome{
			{Regs: make([]int, 6), Mem: []int{1, 1, 0}, Done: both},
			{Regs: make([]int, 6), Mem: []int{1, 2, 0}, Done: both},
			{Regs: make([]int, 6), Mem: []int{2, 1, 0}, Done: both},
			{Regs: make([]int, 6), Mem: []int{2, 2, 0}, Done: both},
		}},
	}
	for _, c := range cases {
		if list := impl.ViewOutcomes(c.p); !sameOutcomes(list, c.want) {
			t.Errorf("%s: ViewOutcomes = %v, want %v", c.name, list, c.want)
		}
	}
}

// roomyViewed is a state of three threads whose lists lie in arrays with room between and behind, and these arrays.
type roomyViewed struct {
	s       impl.Viewed
	numbers []int
	indexes []int
	notes   []impl.Note
	views   [][]int
	places  [][]impl.Note
}

// view returns a view that lies in the array, as one of a number.
func (r *roomyViewed) view(which int, indexes ...int) []int {
	view := r.indexes[5*which : 5*which+3]
	copy(view, indexes)
	return view
}

// roomyViews returns such a state of the roomy program.
func roomyViews() *roomyViewed {
	r := &roomyViewed{indexes: make([]int, 80), notes: make([]impl.Note, 20), views: make([][]int, 14), places: make([][]impl.Note, 5)}
	for i := range r.indexes {
		r.indexes[i] = 7
	}
	r.s.State, r.numbers = roomyState()
	copy(r.s.State.Mem, []int{0, 0, 0})
	copy(r.views, [][]int{r.view(0, 1, 0, 2), r.view(1, 2, 0, 1), r.view(2, 0, 0, 3), nil, r.view(3, 2, 0, 0), r.view(4, 1, 0, 3), nil, nil, r.view(5, 0, 0, 2), r.view(6, 2, 0, 2)})
	r.s.Views, r.s.Locks, r.s.Chans, r.s.Fence = r.views[0:3], r.views[4:6], r.views[8:10], r.view(7, 1, 0, 1)
	copy(r.notes, []impl.Note{noteOf(0, r.view(8, 0, 0, 0)...), noteOf(2, r.view(9, 1, 0, 3)...), glued(noteOf(1, r.view(10, 2, 0, 0)...))})
	copy(r.notes[5:], []impl.Note{noteOf(0, r.view(11, 0, 0, 0)...)})
	copy(r.notes[8:], []impl.Note{noteOf(0, r.view(12, 0, 0, 0)...), noteOf(3, r.view(13, 1, 0, 1)...), noteOf(1, r.view(14, 0, 0, 2)...), glued(noteOf(2, r.view(15, 2, 0, 3)...))})
	copy(r.places, [][]impl.Note{r.notes[0:3], r.notes[5:6], r.notes[8:12]})
	r.s.Notes = r.places[0:3]
	return r
}

// check fails the test if a roomy state, its arrays, or a roomy program are not as they were.
func (r *roomyViewed) check(t *testing.T, name string, p impl.Program, stmts []impl.Stmt) {
	t.Helper()
	freshProgram, freshStmts := roomyStores()
	checkRoomy(t, name, p, stmts, freshProgram, freshStmts)
	fresh := roomyViews()
	if !sameViewed(r.s, fresh.s) || !sameNumbers(r.numbers, fresh.numbers) || !sameNumbers(r.indexes, fresh.indexes) ||
		!sameNotes(r.notes, fresh.notes) || !sameOrderLists(r.views, fresh.views) || !sameNoteLists(r.places, fresh.places) {
		t.Errorf("%s has changed a state with views: %v", name, *r)
	}
}

// spoilStores writes into the lists of stores at all places, up to where their room ends, and into the list of them, and fails the test if a list changes with another one.
func spoilStores(t *testing.T, name string, notes [][]impl.Note) {
	t.Helper()
	for place, own := range notes {
		room := own[:cap(own)]
		for i := range room {
			room[i] = impl.Note{Value: 50 + place}
		}
		for other, stores := range notes {
			for _, n := range stores {
				if other != place && n.Value == 50+place {
					t.Errorf("%s: the stores at %d and %d share memory", name, place, other)
				}
			}
		}
	}
	room := notes[:cap(notes)]
	for i := range room {
		room[i] = nil
	}
}

// spoilViewed writes into all lists of a state, up to where their room ends, and fails the test if a list changes with another one.
func spoilViewed(t *testing.T, name string, s impl.Viewed) {
	t.Helper()
	checkOwnLists(t, name, append(stateLists(s.State), allViews(s)...))
	outer := [][][]int{s.Views, s.Locks, s.Chans}
	for i, views := range outer {
		room := views[:cap(views)]
		for at := range room {
			room[at] = []int{i}
		}
		for k, others := range outer {
			for _, view := range others {
				if k != i && sameNumbers(view, []int{i}) {
					t.Errorf("%s: the lists %d and %d of views share memory", name, i, k)
				}
			}
		}
	}
	spoilStores(t, name, s.Notes)
}

func TestViewedStatesAreNewMemory(t *testing.T) {
	p, stmts := roomyStores()
	r := roomyViews()
	done := 0
	for thread := -1; thread <= 3; thread++ {
		for way := -1; way <= 4; way++ {
			want, _ := impl.ViewDo(p, copiedViewed(r.s), thread, way)
			next, ok := impl.ViewDo(p, r.s, thread, way)
			again, _ := impl.ViewDo(p, r.s, thread, way)
			if ok != hasNumber(impl.ViewWays(p, r.s, thread), way) || !sameViewed(next, want) {
				t.Errorf("ViewDo(%v, %d, %d) = %v, want %v", r.s, thread, way, next, want)
			}
			if ok {
				done++
			}
			spoilViewed(t, "ViewDo", next)
			if !sameViewed(again, want) {
				t.Errorf("two states behind the way %d of the thread %d share memory: %v", way, thread, again)
			}
			impl.ViewOk(p, r.s)
			r.check(t, "what is asked of a state with views, or writing to what it returned,", p, stmts)
		}
	}
	// The first thread stores behind the last store of its place; the second one behind that of the beginning; the third one adds to it.
	if done != 3 {
		t.Errorf("%d ways can be done", done)
	}
}

func TestViewWaysAndViewOutcomeReturnNewMemory(t *testing.T) {
	p, stmts := roomyStores()
	r := roomyViews()
	for thread := -1; thread <= 3; thread++ {
		want := impl.ViewWays(p, copiedViewed(r.s), thread)
		ways, again := impl.ViewWays(p, r.s, thread), impl.ViewWays(p, r.s, thread)
		checkOwnLists(t, "ViewWays", [][]int{ways})
		if !sameNumbers(again, want) || !sameNumbers(impl.ViewWays(p, r.s, thread), want) {
			t.Errorf("two answers about the thread %d share memory: %v, want %v", thread, again, want)
		}
	}
	want, _ := impl.ViewOutcome(p, copiedViewed(r.s))
	o, ok := impl.ViewOutcome(p, r.s)
	again, _ := impl.ViewOutcome(p, r.s)
	spoil(t, "ViewOutcome", []impl.Outcome{o})
	if !ok || !sameOutcome(again, want) {
		t.Errorf("ViewOutcome = %v, or two answers share memory: %v, want %v", ok, again, want)
	}
	r.check(t, "ViewWays or ViewOutcome, or writing to what they returned,", p, stmts)
}

func TestViewBeginAndViewPlayReturnNewMemory(t *testing.T) {
	p, stmts := roomyStores()
	r := roomyViews()
	array := []int{0, 0, 7, 1, 0, 7, 2, 0, 7, 2, 1, 7, 0, 2, 7, 1, 1, 7, 2, 1, 7, 0, 0, 7}
	steps := make([][]int, 0, 12)
	for at := 0; at < len(array); at += 3 {
		steps = append(steps, array[at:at+2])
	}
	fresh := append([]int{}, array...)
	for length := range len(steps) + 1 {
		begin, _ := impl.ViewBegin(p)
		s, ok := impl.ViewPlay(p, steps[:length])
		firstBegin, first := copiedViewed(begin), copiedViewed(s)
		otherBegin, _ := impl.ViewBegin(p)
		other, _ := impl.ViewPlay(p, steps[:length])
		spoilViewed(t, "ViewBegin", begin)
		spoilViewed(t, "ViewPlay", s)
		if !ok || !sameViewed(otherBegin, firstBegin) || !sameViewed(other, first) {
			t.Errorf("ViewPlay(%v) = %v, or two answers share memory: %v, %v", steps[:length], ok, otherBegin, other)
		}
		r.check(t, "ViewBegin or ViewPlay", p, stmts)
		if !sameNumbers(array, fresh) || len(steps[:9][8]) != 0 {
			t.Errorf("ViewPlay has changed its steps: %v", array)
		}
	}
}

func TestViewOutcomesReturnNewMemory(t *testing.T) {
	fresh := append(viewExamples(), fewPrograms()...)
	for i, p := range append(viewExamples(), fewPrograms()...) {
		list, other := impl.ViewOutcomes(p), impl.ViewOutcomes(p)
		spoil(t, "ViewOutcomes", list)
		want := viewWalkOf(p).outcomes.outcomes
		if !sameOutcomes(other, want) || !sameOutcomes(impl.ViewOutcomes(p), want) {
			t.Errorf("two answers share memory: %v", other)
		}
		if !sameProgram(p, fresh[i]) {
			t.Errorf("ViewOutcomes has changed %v", p)
		}
	}
	p, stmts := roomyStores()
	spoil(t, "ViewOutcomes", impl.ViewOutcomes(p))
	roomyViews().check(t, "ViewOutcomes", p, stmts)
}
