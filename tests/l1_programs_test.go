package tests

import (
	"math"
	"testing"

	"loop.example/wholethreads/impl"
)

// Which number of a statement tells something.
const (
	nowhere = 0
	inA     = 1
	inB     = 2
)

// span is the first and the last number that a kind has in one place of a statement.
type span struct {
	low  int
	high int
}

// kindRow is a line of the document's table of kinds, its limits as plain figures.
type kindRow struct {
	name   string
	kind   int
	a      span
	b      span
	c      span
	strong bool
	reads  int
	sets   int
	place  int
	writes bool
}

func kindRows() []kindRow {
	none, register, sum := span{0, 0}, span{0, 2}, span{-1, 2}
	place, lock, channel, value, count := span{0, 2}, span{0, 1}, span{0, 1}, span{0, 3}, span{1, 6}
	return []kindRow{
		{name: "StLet", kind: 0, a: register, b: sum, c: value, reads: inB, sets: inA},
		{name: "StLoad", kind: 1, a: register, b: place, c: none, strong: true, sets: inA, place: inB},
		{name: "StStore", kind: 2, a: place, b: sum, c: value, strong: true, reads: inB, place: inA, writes: true},
		{name: "StSwap", kind: 3, a: register, b: place, c: value, sets: inA, place: inB, writes: true},
		{name: "StAdd", kind: 4, a: register, b: place, c: value, sets: inA, place: inB, writes: true},
		{name: "StFence", kind: 5, a: none, b: none, c: none},
		{name: "StLock", kind: 6, a: lock, b: none, c: none},
		{name: "StUnlock", kind: 7, a: lock, b: none, c: none},
		{name: "StSend", kind: 8, a: channel, b: sum, c: value, reads: inB},
		{name: "StGet", kind: 9, a: register, b: channel, c: none, sets: inA},
		{name: "StSkip", kind: 10, a: register, b: count, c: none, reads: inA},
	}
}

func (s span) has(n int) bool { return s.low <= n && n <= s.high }

func (row kindRow) has(s impl.Stmt) bool {
	return row.a.has(s.A) && row.b.has(s.B) && row.c.has(s.C) && (row.strong || !s.Strong)
}

func numberAt(s impl.Stmt, where int) int {
	switch where {
	case inA:
		return s.A
	case inB:
		return s.B
	}
	return -1
}

// stmtsAround returns all statements of a kind with numbers from well below to well above what any kind has.
func stmtsAround(kind int) []impl.Stmt {
	list := []impl.Stmt{}
	for a := -3; a <= 8; a++ {
		for b := -3; b <= 8; b++ {
			for c := -3; c <= 8; c++ {
				list = append(list, impl.Stmt{Kind: kind, A: a, B: b, C: c})
				list = append(list, impl.Stmt{Kind: kind, A: a, B: b, C: c, Strong: true})
			}
		}
	}
	return list
}

// goodStmts returns all statements that there are.
func goodStmts() []impl.Stmt {
	list := []impl.Stmt{}
	for _, row := range kindRows() {
		for _, s := range stmtsAround(row.kind) {
			if row.has(s) {
				list = append(list, s)
			}
		}
	}
	return list
}

// badStmts returns statements that are none: of kinds that there are not, and one for each number just outside, and far outside, of what a kind has.
func badStmts() []impl.Stmt {
	list := []impl.Stmt{{Kind: -1}, {Kind: 11}, {Kind: math.MinInt}, {Kind: math.MaxInt}}
	for _, row := range kindRows() {
		good := impl.Stmt{Kind: row.kind, A: row.a.low, B: row.b.low, C: row.c.low}
		for _, n := range []int{row.a.low - 1, row.a.high + 1, math.MinInt, math.MaxInt} {
			bad := good
			bad.A = n
			list = append(list, bad)
		}
		for _, n := range []int{row.b.low - 1, row.b.high + 1, math.MinInt, math.MaxInt} {
			bad := good
			bad.B = n
			list = append(list, bad)
		}
		for _, n := range []int{row.c.low - 1, row.c.high + 1, math.MinInt, math.MaxInt} {
			bad := good
			bad.C = n
			list = append(list, bad)
		}
		if !row.strong {
			bad := good
			bad.Strong = true
			list = append(list, bad)
		}
	}
	return list
}

func TestConstants(t *testing.T) {
	limits := []int{impl.MaxThreads, impl.MaxStmts, impl.MaxTotal, impl.Places, impl.Regs, impl.Locks, impl.Chans, impl.Values}
	for i, want := range []int{3, 6, 9, 3, 3, 2, 2, 4} {
		if limits[i] != want {
			t.Errorf("limit %d = %d, want %d", i, limits[i], want)
		}
	}
	kinds := []int{impl.StLet, impl.StLoad, impl.StStore, impl.StSwap, impl.StAdd, impl.StFence, impl.StLock, impl.StUnlock, impl.StSend, impl.StGet, impl.StSkip}
	for i, row := range kindRows() {
		if kinds[i] != row.kind {
			t.Errorf("%s = %d, want %d", row.name, kinds[i], row.kind)
		}
	}
}

func TestStmtOkOfEachKind(t *testing.T) {
	for _, row := range kindRows() {
		for _, s := range stmtsAround(row.kind) {
			if impl.StmtOk(s) != row.has(s) {
				t.Errorf("%s: StmtOk(%v) = %v", row.name, s, !row.has(s))
			}
		}
	}
}

func TestStmtOkOutside(t *testing.T) {
	bad := badStmts()
	for _, kind := range []int{-2, -1, 11, 12} {
		bad = append(bad, stmtsAround(kind)...)
	}
	for _, s := range bad {
		if impl.StmtOk(s) {
			t.Errorf("StmtOk(%v) = true", s)
		}
	}
	if !impl.StmtOk(impl.Stmt{}) {
		t.Error("the zero statement, which sets the register 0 to what it has, is none")
	}
}

func TestWhatAStatementDoes(t *testing.T) {
	for _, row := range kindRows() {
		for _, s := range stmtsAround(row.kind) {
			reads, sets, place, writes := -1, -1, -1, false
			if row.has(s) {
				reads, sets, place, writes = numberAt(s, row.reads), numberAt(s, row.sets), numberAt(s, row.place), row.writes
			}
			if got := impl.StmtReads(s); got != reads {
				t.Errorf("%s: StmtReads(%v) = %d, want %d", row.name, s, got, reads)
			}
			if got := impl.StmtSets(s); got != sets {
				t.Errorf("%s: StmtSets(%v) = %d, want %d", row.name, s, got, sets)
			}
			if got := impl.StmtPlace(s); got != place {
				t.Errorf("%s: StmtPlace(%v) = %d, want %d", row.name, s, got, place)
			}
			if got := impl.StmtWrites(s); got != writes {
				t.Errorf("%s: StmtWrites(%v) = %v, want %v", row.name, s, got, writes)
			}
		}
	}
}

func TestWhatNoStatementDoes(t *testing.T) {
	for _, s := range badStmts() {
		if impl.StmtReads(s) != -1 || impl.StmtSets(s) != -1 || impl.StmtPlace(s) != -1 || impl.StmtWrites(s) {
			t.Errorf("%v reads %d, sets %d, is at %d, writes %v", s, impl.StmtReads(s), impl.StmtSets(s), impl.StmtPlace(s), impl.StmtWrites(s))
		}
	}
}

func TestConflictExamples(t *testing.T) {
	add := impl.Stmt{Kind: impl.StAdd, A: 0, B: 1, C: 1}
	load := impl.Stmt{Kind: impl.StLoad, A: 2, B: 1}
	strong := impl.Stmt{Kind: impl.StLoad, A: 0, B: 1, Strong: true}
	store := impl.Stmt{Kind: impl.StStore, A: 1, B: -1, C: 3}
	elsewhere := impl.Stmt{Kind: impl.StStore, A: 2, B: 1, C: 1}
	fence := impl.Stmt{Kind: impl.StFence}
	lock := impl.Stmt{Kind: impl.StLock, A: 1}
	send := impl.Stmt{Kind: impl.StSend, A: 1, B: 1, C: 1}
	noStore := impl.Stmt{Kind: impl.StStore, A: 1, B: -1, C: 4}
	cases := []struct {
		a    impl.Stmt
		b    impl.Stmt
		want bool
	}{
		{add, load, true},
		{store, load, true},
		{store, strong, true},
		{store, add, true},
		{store, store, true},
		{load, strong, false},
		{load, load, false},
		{store, elsewhere, false},
		{load, elsewhere, false},
		{fence, fence, false},
		{lock, lock, false},
		{send, send, false},
		{store, send, false},
		{noStore, load, false},
		{noStore, store, false},
		{noStore, noStore, false},
	}
	for _, c := range cases {
		if impl.Conflict(c.a, c.b) != c.want || impl.Conflict(c.b, c.a) != c.want {
			t.Errorf("Conflict of %v and %v is %v, and %v the other way round; want %v", c.a, c.b, impl.Conflict(c.a, c.b), impl.Conflict(c.b, c.a), c.want)
		}
	}
}

// placeAndWrites returns the place of a statement, and whether it writes it, as the rows tell.
func placeAndWrites(s impl.Stmt) (int, bool) {
	for _, row := range kindRows() {
		if row.kind == s.Kind && row.has(s) {
			return numberAt(s, row.place), row.writes
		}
	}
	return -1, false
}

func TestConflictOfAllPairs(t *testing.T) {
	stmts := append(goodStmts(), badStmts()...)
	for _, a := range stmts {
		placeA, writesA := placeAndWrites(a)
		for _, b := range stmts {
			placeB, writesB := placeAndWrites(b)
			want := placeA != -1 && placeA == placeB && (writesA || writesB)
			if impl.Conflict(a, b) != want {
				t.Fatalf("Conflict(%v, %v) = %v", a, b, !want)
			}
		}
	}
}

func TestProgramOk(t *testing.T) {
	bad := impl.Stmt{Kind: impl.StSkip, A: 0, B: 0}
	cases := []struct {
		name string
		p    impl.Program
		want bool
	}{
		{"no thread", programOf(), false},
		{"the zero value", impl.Program{}, false},
		{"a thread without statements", programOf(nil), true},
		{"threads without statements", programOf(nil, []impl.Stmt{}, nil), true},
		{"a thread without statements between others", programOf(lets(2), nil, lets(1)), true},
		{"too many threads without statements", programOf(nil, nil, nil, nil), false},
		{"too many threads", programOf(lets(1), lets(1), lets(1), lets(1)), false},
		{"a thread of six", programOf(lets(6)), true},
		{"a thread of seven", programOf(lets(7)), false},
		{"a last thread of seven", programOf(nil, nil, lets(7)), false},
		{"a thread of nine", programOf(lets(9)), false},
		{"nine together", programOf(lets(6), lets(3)), true},
		{"nine together in three threads", programOf(lets(3), lets(3), lets(3)), true},
		{"ten together", programOf(lets(6), lets(4)), false},
		{"ten together in three threads", programOf(lets(4), lets(3), lets(3)), false},
		{"eighteen together", programOf(lets(6), lets(6), lets(6)), false},
		{"what is no statement", programOf([]impl.Stmt{bad}), false},
		{"what is no statement, at the end", programOf(lets(2), append(lets(2), bad)), false},
		{"a skip past the end of its thread", programOf([]impl.Stmt{{Kind: impl.StSkip, A: 0, B: 6}}), true},
	}
	for _, c := range cases {
		if impl.ProgramOk(c.p) != c.want {
			t.Errorf("%s: ProgramOk = %v", c.name, !c.want)
		}
	}
}

func TestProgramOkOfEachStatement(t *testing.T) {
	for _, s := range goodStmts() {
		if !impl.ProgramOk(programOf(lets(1), []impl.Stmt{s})) {
			t.Errorf("ProgramOk with %v = false", s)
		}
	}
	for _, s := range badStmts() {
		if impl.ProgramOk(programOf([]impl.Stmt{s}, lets(1))) {
			t.Errorf("ProgramOk with %v = true", s)
		}
	}
}

func TestWithout(t *testing.T) {
	l := lets(4)
	p := programOf(l[:3], nil, l[3:])
	cases := []struct {
		thread int
		at     int
		want   impl.Program
	}{
		{0, 0, programOf([]impl.Stmt{l[1], l[2]}, nil, l[3:])},
		{0, 1, programOf([]impl.Stmt{l[0], l[2]}, nil, l[3:])},
		{0, 2, programOf([]impl.Stmt{l[0], l[1]}, nil, l[3:])},
		{2, 0, programOf(l[:3], nil, nil)},
	}
	for _, c := range cases {
		q, ok := impl.Without(p, c.thread, c.at)
		if !ok || !sameProgram(q, c.want) {
			t.Errorf("Without(%d, %d) = %v, %v", c.thread, c.at, q, ok)
		}
	}
}

func TestWithoutWhatIsNotThere(t *testing.T) {
	p := programOf(lets(3), nil, lets(1))
	cases := []struct {
		name   string
		p      impl.Program
		thread int
		at     int
	}{
		{"behind the last", p, 0, 3},
		{"far behind the last", p, 0, math.MaxInt},
		{"ahead of the first", p, 0, -1},
		{"far ahead of the first", p, 0, math.MinInt},
		{"of a thread without statements", p, 1, 0},
		{"of the thread -1", p, -1, 0},
		{"of the thread behind the last", p, 3, 0},
		{"of a thread far behind", p, math.MaxInt, 0},
		{"of a thread far ahead", p, math.MinInt, 0},
		{"of no thread", impl.Program{}, 0, 0},
		{"of a thread that would be right then", programOf(lets(7)), 0, 0},
		{"of as many together as would be right then", programOf(lets(5), lets(5)), 0, 0},
		{"of what would be a program then", programOf([]impl.Stmt{{Kind: 11}}), 0, 0},
		{"of too many threads", programOf(lets(1), nil, nil, nil), 0, 0},
	}
	for _, c := range cases {
		if q, ok := impl.Without(c.p, c.thread, c.at); ok || len(q.Threads) != 0 {
			t.Errorf("%s: %v, %v", c.name, q, ok)
		}
	}
}

func TestWith(t *testing.T) {
	l := lets(4)
	s := impl.Stmt{Kind: impl.StStore, A: 2, B: 1, C: 3, Strong: true}
	p := programOf(l[:3], nil, l[3:])
	cases := []struct {
		thread int
		at     int
		want   impl.Program
	}{
		{0, 0, programOf([]impl.Stmt{s, l[0], l[1], l[2]}, nil, l[3:])},
		{0, 1, programOf([]impl.Stmt{l[0], s, l[1], l[2]}, nil, l[3:])},
		{0, 2, programOf([]impl.Stmt{l[0], l[1], s, l[2]}, nil, l[3:])},
		{0, 3, programOf([]impl.Stmt{l[0], l[1], l[2], s}, nil, l[3:])},
		{1, 0, programOf(l[:3], []impl.Stmt{s}, l[3:])},
		{2, 0, programOf(l[:3], nil, []impl.Stmt{s, l[3]})},
		{2, 1, programOf(l[:3], nil, []impl.Stmt{l[3], s})},
	}
	for _, c := range cases {
		q, ok := impl.With(p, c.thread, c.at, s)
		if !ok || !sameProgram(q, c.want) {
			t.Errorf("With(%d, %d) = %v, %v", c.thread, c.at, q, ok)
		}
	}
}

func TestWithAtTheLimits(t *testing.T) {
	fence := impl.Stmt{Kind: impl.StFence}
	cases := []struct {
		name string
		p    impl.Program
		want bool
	}{
		{"a thread of six then", programOf(lets(5)), true},
		{"a thread of seven then", programOf(lets(6)), false},
		{"nine together then", programOf(lets(4), lets(4)), true},
		{"ten together then", programOf(lets(5), lets(4)), false},
		{"ten together in three threads then", programOf(nil, lets(6), lets(3)), false},
	}
	for _, c := range cases {
		for at := range len(c.p.Threads[0]) + 1 {
			q, ok := impl.With(c.p, 0, at, fence)
			if ok != c.want || ok != impl.ProgramOk(q) || !ok && len(q.Threads) != 0 {
				t.Errorf("%s: With at %d = %v, %v", c.name, at, q, ok)
			}
		}
	}
}

func TestWithWhatCannotBe(t *testing.T) {
	fence := impl.Stmt{Kind: impl.StFence}
	p := programOf(lets(3), nil, lets(1))
	cases := []struct {
		name   string
		p      impl.Program
		thread int
		at     int
	}{
		{"past the index behind the last", p, 0, 4},
		{"far behind the last", p, 0, math.MaxInt},
		{"ahead of the first", p, 0, -1},
		{"far ahead of the first", p, 0, math.MinInt},
		{"past the end of a thread without statements", p, 1, 1},
		{"in the thread -1", p, -1, 0},
		{"in the thread behind the last", p, 3, 0},
		{"in a thread far behind", p, math.MaxInt, 0},
		{"in a thread far ahead", p, math.MinInt, 0},
		{"in no thread", impl.Program{}, 0, 0},
		{"in what is no program", programOf([]impl.Stmt{{Kind: 11}}), 0, 0},
		{"in too many threads", programOf(nil, nil, nil, nil), 0, 0},
	}
	for _, c := range cases {
		if q, ok := impl.With(c.p, c.thread, c.at, fence); ok || len(q.Threads) != 0 {
			t.Errorf("%s: %v, %v", c.name, q, ok)
		}
	}
	for _, s := range badStmts() {
		if q, ok := impl.With(p, 0, 0, s); ok || len(q.Threads) != 0 {
			t.Errorf("With %v = %v, %v", s, q, ok)
		}
	}
}

func TestWithAndWithoutUndoEachOther(t *testing.T) {
	p := programOf(lets(3), nil, lets(2))
	for _, s := range goodStmts() {
		for thread, stmts := range p.Threads {
			for at := range len(stmts) + 1 {
				more, ok := impl.With(p, thread, at, s)
				if !ok || more.Threads[thread][at] != s {
					t.Fatalf("With(%d, %d, %v) = %v, %v", thread, at, s, more, ok)
				}
				if less, ok := impl.Without(more, thread, at); !ok || !sameProgram(less, p) {
					t.Fatalf("Without(%d, %d) behind it = %v, %v", thread, at, less, ok)
				}
			}
		}
	}
}

// roomyProgram returns a program whose threads lie in one array with room behind, and all of that array.
func roomyProgram() (impl.Program, []impl.Stmt) {
	array := lets(12)
	threads := make([][]impl.Stmt, 0, 5)
	threads = append(threads, array[0:3], array[4:4], array[6:8])
	return impl.Program{Threads: threads}, array
}

// checkArgument fails the test if a roomy program, or its array, is not as it was.
func checkArgument(t *testing.T, name string, p impl.Program, array []impl.Stmt) {
	fresh, _ := roomyProgram()
	if !sameProgram(p, fresh) || !sameThread(array, lets(12)) {
		t.Errorf("%s has changed its argument: %v, %v", name, p, array)
	}
	for _, stmts := range p.Threads[:5][3:] {
		if stmts != nil {
			t.Errorf("%s has written behind the threads of its argument", name)
		}
	}
}

// checkOwnMemory writes into each thread of an answer, and behind its end, and fails the test if another thread changes.
func checkOwnMemory(t *testing.T, name string, q impl.Program) {
	mark := impl.Stmt{Kind: 99}
	for i := range q.Threads {
		before := make([][]impl.Stmt, len(q.Threads))
		for k, stmts := range q.Threads {
			before[k] = append([]impl.Stmt{}, stmts...)
		}
		for at := range q.Threads[i] {
			q.Threads[i][at] = mark
		}
		room := q.Threads[i][:cap(q.Threads[i])]
		for at := range room {
			room[at] = mark
		}
		for k, stmts := range q.Threads {
			if k != i && !sameThread(stmts, before[k]) {
				t.Errorf("%s: the threads %d and %d share memory", name, i, k)
			}
		}
		copy(q.Threads[i], before[i])
	}
	for k := range q.Threads {
		q.Threads[k] = nil
	}
}

func TestAnswersAreNewMemory(t *testing.T) {
	p, array := roomyProgram()
	fence := impl.Stmt{Kind: impl.StFence}
	for thread, stmts := range p.Threads {
		for at := range len(stmts) + 1 {
			q, ok := impl.With(p, thread, at, fence)
			if !ok {
				t.Fatalf("With(%d, %d) = false", thread, at)
			}
			checkArgument(t, "With", p, array)
			checkOwnMemory(t, "With", q)
			checkArgument(t, "writing to what With returned", p, array)
		}
		for at := range stmts {
			q, ok := impl.Without(p, thread, at)
			if !ok {
				t.Fatalf("Without(%d, %d) = false", thread, at)
			}
			checkArgument(t, "Without", p, array)
			checkOwnMemory(t, "Without", q)
			checkArgument(t, "writing to what Without returned", p, array)
		}
	}
	impl.With(p, 0, 9, fence)
	impl.Without(p, 0, 9)
	impl.ProgramOk(p)
	checkArgument(t, "a call that returns false", p, array)
}

func TestAnswersShareNoneWithEachOther(t *testing.T) {
	p, _ := roomyProgram()
	first, _ := impl.Without(p, 0, 1)
	second, _ := impl.Without(p, 0, 1)
	checkOwnMemory(t, "Without", first)
	if !sameProgram(second, programOf([]impl.Stmt{lets(3)[0], lets(3)[2]}, nil, lets(8)[6:])) {
		t.Errorf("two answers share memory: %v", second)
	}
}
