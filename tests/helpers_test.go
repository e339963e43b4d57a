package tests

import "loop.example/wholethreads/impl"

// sameThread reports whether two threads have the same statements; nil and empty are the same.
func sameThread(a []impl.Stmt, b []impl.Stmt) bool {
	if len(a) != len(b) {
		return false
	}
	for i := range a {
		if a[i] != b[i] {
			return false
		}
	}
	return true
}

// sameProgram reports whether two programs have the same threads.
func sameProgram(a impl.Program, b impl.Program) bool {
	if len(a.Threads) != len(b.Threads) {
		return false
	}
	for i := range a.Threads {
		if !sameThread(a.Threads[i], b.Threads[i]) {
			return false
		}
	}
	return true
}

// programOf returns a program of threads.
func programOf(threads ...[]impl.Stmt) impl.Program {
	return impl.Program{Threads: threads}
}

// lets returns up to 48 statements, all StLet, no two of which are the same.
func lets(count int) []impl.Stmt {
	list := []impl.Stmt{}
	for i := range count {
		list = append(list, impl.Stmt{Kind: impl.StLet, A: i % 3, B: i/12 - 1, C: i / 3 % 4})
	}
	return list
}

// sameNumbers reports whether two lists have the same numbers; nil and empty are the same.
func sameNumbers(a []int, b []int) bool {
	if len(a) != len(b) {
		return false
	}
	for i := range a {
		if a[i] != b[i] {
			return false
		}
	}
	return true
}

// sameFlags reports whether two lists tell the same.
func sameFlags(a []bool, b []bool) bool {
	if len(a) != len(b) {
		return false
	}
	for i := range a {
		if a[i] != b[i] {
			return false
		}
	}
	return true
}

// sameState reports whether two states have the same lists.
func sameState(a impl.State, b impl.State) bool {
	return sameNumbers(a.At, b.At) && sameNumbers(a.Regs, b.Regs) && sameNumbers(a.Mem, b.Mem) &&
		sameNumbers(a.Owner, b.Owner) && sameNumbers(a.Chan, b.Chan)
}

// sameOutcome reports whether two outcomes have the same lists.
func sameOutcome(a impl.Outcome, b impl.Outcome) bool {
	return sameNumbers(a.Regs, b.Regs) && sameNumbers(a.Mem, b.Mem) && sameFlags(a.Done, b.Done)
}

// sameOutcomes reports whether two lists have the same outcomes, in the same order.
func sameOutcomes(a []impl.Outcome, b []impl.Outcome) bool {
	if len(a) != len(b) {
		return false
	}
	for i := range a {
		if !sameOutcome(a[i], b[i]) {
			return false
		}
	}
	return true
}

// noPrograms returns programs that are none.
func noPrograms() []impl.Program {
	return []impl.Program{
		{},
		programOf(nil, nil, nil, nil),
		programOf(lets(7)),
		programOf(lets(6), lets(4)),
		programOf([]impl.Stmt{{Kind: 11}}),
		programOf(lets(1), []impl.Stmt{{Kind: impl.StLoad, A: 3}}),
		programOf([]impl.Stmt{{Kind: impl.StSkip, A: 0, B: 0}}, nil),
		programOf([]impl.Stmt{{Kind: impl.StFence, Strong: true}}),
	}
}
