package impl

// Limits of programs.
const (
	MaxThreads = 3
	MaxStmts   = 6
	MaxTotal   = 9
	Places     = 3
	Regs       = 3
	Locks      = 2
	Chans      = 2
	Values     = 4
)

// Kinds of statements.
const (
	StLet    = 0
	StLoad   = 1
	StStore  = 2
	StSwap   = 3
	StAdd    = 4
	StFence  = 5
	StLock   = 6
	StUnlock = 7
	StSend   = 8
	StGet    = 9
	StSkip   = 10
)

// Stmt is a statement: its kind, up to three numbers, and whether it is a strong one.
type Stmt struct {
	Kind   int
	A      int
	B      int
	C      int
	Strong bool
}

// Program is threads of statements.
type Program struct {
	Threads [][]Stmt
}

// Roles of the numbers of a statement: what a number tells, and so which ones it may be.
const (
	roleNone  = 0
	roleSets  = 1
	roleReads = 2
	roleSum   = 3
	rolePlace = 4
	roleLock  = 5
	roleChan  = 6
	roleValue = 7
	roleCount = 8
)

// needs is what a kind of statement needs: the role of each number, and whether it may be strong and writes its place.
type needs struct {
	a      int
	b      int
	c      int
	strong bool
	writes bool
}

// needsOf returns what a kind needs, and whether there is such a kind.
func needsOf(kind int) (needs, bool) {
	switch kind {
	case StLet:
		return needs{a: roleSets, b: roleSum, c: roleValue}, true
	case StLoad:
		return needs{a: roleSets, b: rolePlace, strong: true}, true
	case StStore:
		return needs{a: rolePlace, b: roleSum, c: roleValue, strong: true, writes: true}, true
	case StSwap, StAdd:
		return needs{a: roleSets, b: rolePlace, c: roleValue, writes: true}, true
	case StFence:
		return needs{}, true
	case StLock, StUnlock:
		return needs{a: roleLock}, true
	case StSend:
		return needs{a: roleChan, b: roleSum, c: roleValue}, true
	case StGet:
		return needs{a: roleSets, b: roleChan}, true
	case StSkip:
		return needs{a: roleReads, b: roleCount}, true
	}
	return needs{}, false
}

// within reports whether a number is one from low to high.
func within(n int, low int, high int) bool { return low <= n && n <= high }

// roleHas reports whether a number may stand in a role.
func roleHas(role int, n int) bool {
	switch role {
	case roleSets, roleReads:
		return within(n, 0, Regs-1)
	case roleSum:
		return within(n, -1, Regs-1)
	case rolePlace:
		return within(n, 0, Places-1)
	case roleLock:
		return within(n, 0, Locks-1)
	case roleChan:
		return within(n, 0, Chans-1)
	case roleValue:
		return within(n, 0, Values-1)
	case roleCount:
		return within(n, 1, MaxStmts)
	}
	return n == 0
}

// StmtOk reports whether a statement is one.
func StmtOk(s Stmt) bool {
	need, known := needsOf(s.Kind)
	if !known || s.Strong && !need.strong {
		return false
	}
	return roleHas(need.a, s.A) && roleHas(need.b, s.B) && roleHas(need.c, s.C)
}

// threadOk reports whether statements are those of a thread.
func threadOk(stmts []Stmt) bool {
	if len(stmts) > MaxStmts {
		return false
	}
	for _, s := range stmts {
		if !StmtOk(s) {
			return false
		}
	}
	return true
}

// ProgramOk reports whether a program is one.
func ProgramOk(p Program) bool {
	if !within(len(p.Threads), 1, MaxThreads) {
		return false
	}
	total := 0
	for _, stmts := range p.Threads {
		if !threadOk(stmts) {
			return false
		}
		total += len(stmts)
	}
	return total <= MaxTotal
}

// numberIn returns the number of a statement that has a role, or -1. No kind has a register or a place as C.
func numberIn(s Stmt, role int) int {
	if !StmtOk(s) {
		return -1
	}
	need, _ := needsOf(s.Kind)
	if need.a == role {
		return s.A
	}
	if need.b == role {
		return s.B
	}
	return -1
}

// StmtReads returns the register that a statement reads, or -1.
func StmtReads(s Stmt) int {
	if s.Kind == StSkip {
		return numberIn(s, roleReads)
	}
	return numberIn(s, roleSum)
}

// StmtSets returns the register that a statement sets, or -1.
func StmtSets(s Stmt) int { return numberIn(s, roleSets) }

// StmtPlace returns the place that a statement reads or writes, or -1.
func StmtPlace(s Stmt) int { return numberIn(s, rolePlace) }

// StmtWrites reports whether a statement writes a place.
func StmtWrites(s Stmt) bool {
	need, _ := needsOf(s.Kind)
	return need.writes && StmtOk(s)
}

// Conflict reports whether two statements are at the same place, and one of them writes it. What writes has a place, so two without one never do.
func Conflict(a Stmt, b Stmt) bool {
	return StmtPlace(a) == StmtPlace(b) && (StmtWrites(a) || StmtWrites(b))
}

// spliced returns statements with others in the stead of those from one index up to another one.
func spliced(stmts []Stmt, from int, to int, others []Stmt) []Stmt {
	list := make([]Stmt, 0, len(stmts)-(to-from)+len(others))
	list = append(list, stmts[:from]...)
	list = append(list, others...)
	return append(list, stmts[to:]...)
}

// edited returns a program of which one thread is spliced. Each thread is an array of its own, as lists of an answer share none.
func edited(p Program, thread int, from int, to int, others []Stmt) Program {
	threads := make([][]Stmt, len(p.Threads))
	for i, stmts := range p.Threads {
		if i == thread {
			threads[i] = spliced(stmts, from, to, others)
		} else {
			threads[i] = spliced(stmts, 0, 0, nil)
		}
	}
	return Program{Threads: threads}
}

// hasThread reports whether a program is one, and has a thread.
func hasThread(p Program, thread int) bool {
	return ProgramOk(p) && within(thread, 0, len(p.Threads)-1)
}

// Without returns a program without a statement.
func Without(p Program, thread int, at int) (Program, bool) {
	if !hasThread(p, thread) || !within(at, 0, len(p.Threads[thread])-1) {
		return Program{}, false
	}
	return edited(p, thread, at, at+1, nil), true
}

// With returns a program with a statement more.
func With(p Program, thread int, at int, s Stmt) (Program, bool) {
	if !hasThread(p, thread) || !within(at, 0, len(p.Threads[thread])) {
		return Program{}, false
	}
	more := edited(p, thread, at, at, []Stmt{s})
	if !ProgramOk(more) {
		return Program{}, false
	}
	return more, true
}
