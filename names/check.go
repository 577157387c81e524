package names

import "deadbolt/api"

// What a name is declared as.
const (
	nothing = iota
	variable
	lock
	function
)

// declared tells what each name is declared as.
type declared map[string]int

// faultOf is the first fault of a program; nil, if it has none. Whoever finds one panics with it: however deep it stands, there is nothing more to look at.
func faultOf(p api.Prog) error {
	return caught(func() {
		// Ahead of all else: a program that was handed in may be endless.
		bound(p)
		d := declare(p)
		for _, f := range p.Funcs {
			d.look(f.Body)
		}
		if d["main"] != function {
			panic(api.ErrMain)
		}
	})
}

// bound gives up, if there is too much of something.
func bound(p api.Prog) {
	if max(len(p.Vars), len(p.Locks), len(p.Funcs)) > api.MaxDecls {
		panic(api.ErrLong)
	}
	room := api.MaxStmts
	for _, f := range p.Funcs {
		room = count(f.Body, room)
	}
}

// count takes a block's statements, and all within them, from the room that there is, and tells what is left of it.
func count(l []api.Stmt, room int) int {
	for _, s := range l {
		if room == 0 {
			panic(api.ErrLong)
		}
		room = count(s.A, room-1)
		room = count(s.B, room)
	}
	return room
}

// declare takes all names of a program, and gives up at the first one that is there already.
func declare(p api.Prog) declared {
	d := declared{}
	for _, x := range p.Vars {
		d.add(x.Name, x.At, variable)
	}
	for _, x := range p.Locks {
		d.add(x.Name, x.At, lock)
	}
	for _, f := range p.Funcs {
		d.add(f.Name, f.At, function)
	}
	return d
}

func (d declared) add(name string, at, as int) {
	if d[name] != nothing {
		panic(placed{at, api.ErrTwice})
	}
	d[name] = as
}

// look gives up at the first statement of a block, and of all within it, whose name is none of its kind.
func (d declared) look(l []api.Stmt) {
	for _, s := range l {
		want := wanted(s.Kind)
		if want != nothing && d[s.Name] != want {
			panic(placed{s.At, api.ErrName})
		}
		d.look(s.A)
		d.look(s.B)
	}
}

// wanted is what the name of such a statement is to be declared as; nothing, if it has no name.
func wanted(kind int) int {
	switch kind {
	case api.SUse, api.SSet:
		return variable
	case api.SLock, api.SUnlock:
		return lock
	case api.SCall, api.SSpawn:
		return function
	}
	return nothing
}
