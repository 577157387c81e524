package graph

import "deadbolt/api"

// netOf is the net of a program's functions, with an edge to each one that a statement of such a kind names.
func netOf(p api.Prog, kind int) net {
	var names []string
	for _, f := range p.Funcs {
		names = append(names, f.Name)
	}
	g := newNet(names)
	for _, f := range p.Funcs {
		show(f.Body, api.MaxStmts, func(s api.Stmt) {
			if s.Kind == kind {
				g.lead(f.Name, s.Name)
			}
		})
	}
	return g
}

// show shows each statement of a block, and all within it, as long as there is room, and tells what is left of it. No program has more of them than there is room for; but a block that was handed in may stand within itself.
func show(l []api.Stmt, room int, see func(s api.Stmt)) int {
	for _, s := range l {
		if room == 0 {
			return 0
		}
		see(s)
		room = show(s.A, room-1, see)
		room = show(s.B, room, see)
	}
	return room
}
