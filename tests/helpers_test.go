package tests

import "loop.example/wholethreads/impl"

// sameThread reports whether two threads have the same statements; nil and empty are the same.
func sameThread(a []impl.Stmt, b []impl.Stmt) bool {
	if len(a) != len(b) {
		return false
	}
	for i := range a {
		if a[i] != b[i] {
			return false
		}
	}
	return true
}

// sameProgram reports whether two programs have the same threads.
func sameProgram(a impl.Program, b impl.Program) bool {
	if len(a.Threads) != len(b.Threads) {
		return false
	}
	for i := range a.Threads {
		if !sameThread(a.Threads[i], b.Threads[i]) {
			return false
		}
	}
	return true
}

// programOf returns a program of threads.
func programOf(threads ...[]impl.Stmt) impl.Program {
	return impl.Program{Threads: threads}
}

// lets returns up to 48 statements, all StLet, no two of which are the same.
func lets(count int) []impl.Stmt {
	list := []impl.Stmt{}
	for i := range count {
		list = append(list, impl.Stmt{Kind: impl.StLet, A: i % 3, B: i/12 - 1, C: i / 3 % 4})
	}
	return list
}
