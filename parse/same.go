package parse

import "deadbolt/api"

func sameDecl(a, b api.Decl) bool { return a.Name == b.Name }

func sameFunc(a, b api.Func) bool { return a.Name == b.Name && sameBlock(a.Body, b.Body) }

// sameBlock holds two blocks, and all within them, against each other. It does not call itself: lists that were handed in may be deeper than the stack.
func sameBlock(a, b []api.Stmt) bool {
	if endless(a) {
		return false // it would be held against b without end
	}
	type pair struct{ a, b []api.Stmt }
	todo := []pair{{a, b}}
	for len(todo) > 0 {
		p := todo[len(todo)-1]
		todo = todo[:len(todo)-1]
		if len(p.a) != len(p.b) {
			return false
		}
		for i, x := range p.a {
			y := p.b[i]
			if x.Kind != y.Kind || x.Name != y.Name {
				return false
			}
			if len(x.A)+len(y.A) > 0 {
				todo = append(todo, pair{x.A, y.A})
			}
			if len(x.B)+len(y.B) > 0 {
				todo = append(todo, pair{x.B, y.B})
			}
		}
	}
	return true
}

// level is a block, and how deep it stands.
type level struct {
	block []api.Stmt
	deep  int
}

// endless tells whether a block stands within itself. Nothing that Parse makes does, but a list that is handed in may.
//
// Whoever goes down in an endless one comes by a block again that he came by on his way. One block of the way is marked, and each that is met below is held against it; the mark is set anew twice as deep, for a ring that begins further down.
func endless(l []api.Stmt) bool {
	var mark level
	todo := []level{{l, 1}}
	for len(todo) > 0 {
		x := todo[len(todo)-1]
		todo = todo[:len(todo)-1]
		if x.deep > mark.deep && sameList(x.block, mark.block) {
			return true
		}
		if x.deep <= mark.deep || x.deep >= 2*mark.deep {
			mark = x
		}
		for _, s := range x.block {
			todo = pushLevel(todo, level{s.A, x.deep + 1})
			todo = pushLevel(todo, level{s.B, x.deep + 1})
		}
	}
	return false
}

func pushLevel(todo []level, x level) []level {
	if len(x.block) == 0 {
		return todo
	}
	return append(todo, x)
}

// sameList tells whether two lists are one: the same memory, not only the same statements.
func sameList(a, b []api.Stmt) bool {
	return len(a) == len(b) && len(a) > 0 && &a[0] == &b[0]
}
