package parse

import (
	"fmt"
	"math"
	"runtime/debug"
	"slices"
	"strings"
	"testing"

	"deadbolt/api"
)

// writes holds a program's text against what is told.
func writes(t *testing.T, p api.Prog, want string) {
	t.Helper()
	if got := Text(p); got != want {
		t.Errorf("Text(%v): %q; want %q", p, got, want)
	}
}

// bodies holds a block's text against what is told.
func bodies(t *testing.T, l []api.Stmt, want string) {
	t.Helper()
	if got := Body(api.Func{Name: "other", At: 7, Body: l}); got != want {
		t.Errorf("Body(%v): %q; want %q", l, got, want)
	}
	writes(t, api.Prog{Funcs: []api.Func{{Name: "f", Body: l}}}, "func f "+want+"\n")
}

// named is a statement of a kind with a name.
func named(kind int, name string) api.Stmt { return api.Stmt{Kind: kind, Name: name} }

// P602: each written out.
func TestText(t *testing.T) {
	writes(t, api.Prog{}, "")
	writes(t, api.Prog{Vars: []api.Decl{}, Locks: []api.Decl{}, Funcs: []api.Func{}}, "")
	writes(t, api.Prog{Vars: []api.Decl{{Name: "x"}}}, "var x\n")
	writes(t, api.Prog{Locks: []api.Decl{{Name: "m"}}}, "lock m\n")
	writes(t, api.Prog{Funcs: []api.Func{{Name: "f"}}}, "func f { }\n")
	for _, x := range []struct{ s, want string }{
		{"func g{} func f{} lock n lock m var y var x", "var y\nvar x\nlock n\nlock m\nfunc g { }\nfunc f { }\n"},
		{"var\nx\tvar   y", "var x\nvar y\n"},
		{"func f { if { } else { } }", "func f { if { } }\n"},
		{"func f{if{use x}else{}use y}", "func f { if { use x } use y }\n"},
		{"func f{if{}else{use x}}lock m", "lock m\nfunc f { if { } else { use x } }\n"},
		{"func f{if{}else{if{}else{}}}", "func f { if { } else { if { } } }\n"},
		{"func f{if{if{}else{set x}}else{loop{}}}", "func f { if { if { } else { set x } } else { loop { } } }\n"},
		{"var x var x func f { } func f { use z }", "var x\nvar x\nfunc f { }\nfunc f { use z }\n"},
	} {
		writes(t, made(t, x.s), x.want)
	}
}

// P602: blocks of all statements.
func TestBody(t *testing.T) {
	bodies(t, nil, "{ }")
	bodies(t, []api.Stmt{}, "{ }")
	use, set := []api.Stmt{named(1, "x")}, []api.Stmt{named(2, "y"), named(2, "z")}
	for _, x := range []struct {
		s    api.Stmt
		want string
	}{
		{named(1, "a"), "use a"}, {named(2, "b"), "set b"}, {named(3, "c"), "lock c"}, {named(4, "d"), "unlock d"}, {named(5, "e"), "call e"}, {named(6, "abcdefghijkl"), "spawn abcdefghijkl"},
		{api.Stmt{Kind: 7}, "if { }"}, {api.Stmt{Kind: 8}, "loop { }"},
		{api.Stmt{Kind: 7, A: use}, "if { use x }"}, {api.Stmt{Kind: 8, A: set}, "loop { set y set z }"},
		{api.Stmt{Kind: 7, B: use}, "if { } else { use x }"}, {api.Stmt{Kind: 7, A: set, B: use}, "if { set y set z } else { use x }"},
		{api.Stmt{Kind: 7, A: []api.Stmt{}, B: []api.Stmt{}}, "if { }"},
	} {
		bodies(t, []api.Stmt{x.s}, "{ "+x.want+" }")
		bodies(t, []api.Stmt{named(5, "u"), x.s, named(6, "v")}, "{ call u "+x.want+" spawn v }")
		bodies(t, []api.Stmt{x.s, x.s}, "{ "+x.want+" "+x.want+" }")
		bodies(t, []api.Stmt{{Kind: 8, A: []api.Stmt{x.s}}}, "{ loop { "+x.want+" } }")
		bodies(t, []api.Stmt{{Kind: 7, A: []api.Stmt{x.s}, B: []api.Stmt{x.s}}}, "{ if { "+x.want+" } else { "+x.want+" } }")
	}
}

// P602: a text hangs on no At.
func TestTextOfAnyPlaces(t *testing.T) {
	s := "var x\nlock m\nfunc f { if { use x } else { lock m } loop { set x } }\n"
	for _, at := range []int{0, 7, -1, math.MaxInt, math.MinInt} {
		p := made(t, s)
		p.Vars[0].At, p.Locks[0].At, p.Funcs[0].At = at, at, at
		p.Funcs[0].Body[0].At, p.Funcs[0].Body[0].B[0].At, p.Funcs[0].Body[1].At = at, at, at
		writes(t, p, s)
		if !Same(p, made(t, s)) || !Same(made(t, s), p) {
			t.Errorf("Same hangs on At, %d", at)
		}
	}
}

// P602, P603: programs that are too long, too many or too deep for Parse are written too.
func TestTextOfGreatPrograms(t *testing.T) {
	var p api.Prog
	want := ""
	for i := range 300 {
		p.Vars = append(p.Vars, api.Decl{Name: fmt.Sprint("v", i)})
		want += fmt.Sprint("var v", i, "\n")
	}
	writes(t, p, want)
	refuses(t, want, 0, api.ErrLong)
	var l []api.Stmt
	for range 24 {
		l = []api.Stmt{{Kind: api.SIf, B: l}, named(api.SUse, "x")}
	}
	bodies(t, l, strings.Repeat("{ if { } else ", 23)+"{ if { } use x }"+strings.Repeat(" use x }", 23))
	refuses(t, "func f "+Body(api.Func{Body: l}), 7+19*14+5, api.ErrDeep)
}

// sames holds whether two programs are the same, asked from both sides.
func sames(t *testing.T, a, b api.Prog, want bool) {
	t.Helper()
	if Same(a, b) != want || Same(b, a) != want {
		t.Errorf("Same(%v, %v): not %v both ways", a, b, want)
	}
}

// P602: texts whose programs are all others.
func TestSame(t *testing.T) {
	texts := []string{
		"", "var x", "var y", "lock x", "func x{}", "var x var x", "var x var y", "var y var x", "var x lock x", "lock x lock y", "lock y lock x", "var x func x{}",
		"func x{} func x{}", "func x{} func y{}", "func y{} func x{}", "func x{use x}", "func x{use x} func y{}", "func x{} func y{use x}",
		"func x{use y}", "func x{set x}", "func x{lock x}", "func x{unlock x}", "func x{call x}", "func x{spawn x}", "func x{use x use x}", "func x{use x use y}", "func x{use y use x}",
		"func x{if{}}", "func x{loop{}}", "func x{if{use x}}", "func x{loop{use x}}", "func x{loop{use y}}", "func x{loop{set x}}", "func x{loop{use x use x}}", "func x{loop{} use x}", "func x{use x loop{}}",
		"func x{if{}else{use x}}", "func x{if{}else{use y}}", "func x{if{}else{set x}}", "func x{if{use x}else{use x}}", "func x{if{use x}else{use y}}", "func x{if{use y}else{use x}}", "func x{if{}use x}",
		"func x{if{if{}}}", "func x{if{loop{}}}", "func x{if{}else{if{}}}", "func x{if{if{use x}}}", "func x{if{if{}else{use x}}}", "func x{if{if{}}else{use x}}", "func x{if{}if{}}",
		"func x{if{use x}if{}}", "func x{if{}if{use x}}", "func x{loop{loop{loop{use x}}}}", "func x{loop{loop{loop{use y}}}}", "func x{loop{loop{loop{}use x}}}", "func x{loop{loop{loop{}}}}",
	}
	for i, s := range texts {
		for k, u := range texts {
			sames(t, made(t, s), made(t, u), i == k)
			sames(t, made(t, " \n"+s), made(t, Text(made(t, u))), i == k)
		}
	}
	sames(t, made(t, "func x{if{}else{}}"), made(t, "func x{if{}}"), true)
	sames(t, made(t, "func f{} lock m var x"), made(t, "var x func f{} lock m"), true)
}

// P602, P2: no list and an empty one are the same.
func TestSameOfNoLists(t *testing.T) {
	sames(t, api.Prog{}, api.Prog{Vars: []api.Decl{}, Locks: []api.Decl{}, Funcs: []api.Func{}}, true)
	sames(t, api.Prog{Funcs: []api.Func{{Name: "f"}}}, api.Prog{Funcs: []api.Func{{Name: "f", Body: []api.Stmt{}}}}, true)
	a := api.Prog{Funcs: []api.Func{{Body: []api.Stmt{{Kind: 7}}}}}
	sames(t, a, api.Prog{Funcs: []api.Func{{Body: []api.Stmt{{Kind: 7, A: []api.Stmt{}, B: []api.Stmt{}}}}}}, true)
	sames(t, a, api.Prog{Funcs: []api.Func{{Body: []api.Stmt{{Kind: 7, B: []api.Stmt{{}}}}}}}, false)
}

// P602: all is held against all, where no text has it too.
func TestSameOfUnsoundPrograms(t *testing.T) {
	of := func(s api.Stmt) api.Prog { return api.Prog{Funcs: []api.Func{{Body: []api.Stmt{s}}}} }
	inner := []api.Stmt{{}}
	l := []api.Stmt{{}, {Kind: 1}, {Kind: -1}, {Kind: 99}, {Name: " "}, {Name: "x y"}, {Kind: 1, A: inner}, {Kind: 1, B: inner}, {Kind: 8, A: inner}, {Kind: 8, B: inner}, {Kind: 8, A: inner, B: inner}, {Kind: 7, Name: "x"}, {Kind: 7, Name: "X"}}
	for i, a := range l {
		for k, b := range l {
			sames(t, of(a), of(b), i == k)
		}
	}
}

// anyStmts are statements of any kinds, names and blocks.
func anyStmts(d *dice, deep int) []api.Stmt {
	var l []api.Stmt
	for range d.of(4) {
		s := api.Stmt{Kind: d.of(12) - 1, At: d.of(9) - 4, Name: []string{"", "x", "lock", "}", "a b", "\n", "\xff\x00", "\u00e9", strings.Repeat("n", 99)}[d.of(9)]}
		if d.of(9) == 0 {
			s.Kind = []int{math.MaxInt, math.MinInt, 1 << 32}[d.of(3)]
		}
		if deep > 0 {
			s.A, s.B = anyStmts(d, deep-1), anyStmts(d, deep-1)
		}
		l = append(l, s)
	}
	return l
}

// P1: whatever program is handed in.
func TestAnyProgramsEnd(t *testing.T) {
	d := &dice{8}
	for range 2000 {
		f := api.Func{Name: []string{"", "f", "func", "{"}[d.of(4)], Body: anyStmts(d, 4)}
		p := api.Prog{Vars: make([]api.Decl, d.of(3)), Locks: make([]api.Decl, d.of(3)), Funcs: []api.Func{f, {}}}
		if Text(p) != Text(p) || Body(f) != Body(f) || !Same(p, p) {
			t.Errorf("not the same twice: %v", p)
		}
	}
}

// P1: programs far deeper than a stack that calls would fill.
func TestDeepProgramsEnd(t *testing.T) {
	defer debug.SetMaxStack(debug.SetMaxStack(16 << 20))
	const deep = 1_000_000
	var a, b, c []api.Stmt
	for i := range deep {
		a = []api.Stmt{{Kind: api.SLoop, A: a}}
		b = []api.Stmt{{Kind: api.SIf, B: b}}
		c = []api.Stmt{{Kind: api.SLoop, At: i, A: c}}
	}
	if got := Body(api.Func{Body: a}); got != strings.Repeat("{ loop ", deep)+"{ }"+strings.Repeat(" }", deep) {
		t.Errorf("Body of loops: %d bytes", len(got))
	}
	if got := Body(api.Func{Body: b}); got != strings.Repeat("{ if { } else ", deep-1)+"{ if { } }"+strings.Repeat(" }", deep-1) {
		t.Errorf("Body of ifs: %d bytes", len(got))
	}
	of := func(l []api.Stmt) api.Prog { return api.Prog{Funcs: []api.Func{{Body: l}}} }
	longer := []api.Stmt{{Kind: api.SLoop, A: c}}
	if !Same(of(a), of(c)) || Same(of(a), of(b)) || Same(of(a), of(longer)) || Same(of(longer), of(a)) {
		t.Error("Same of deep programs")
	}
}

// P1: programs whose blocks stand within themselves, and in a ring of others.
func TestEndlessProgramsEnd(t *testing.T) {
	for ring := 1; ring <= 40; ring++ {
		for ahead := range 10 {
			l := make([]api.Stmt, ring)
			for i := range l {
				l[i] = api.Stmt{Kind: api.SIf, A: []api.Stmt{named(api.SUse, "x")}, B: l[(i+1)%ring : (i+1)%ring+1]}
			}
			block := l[:1]
			for range ahead {
				block = []api.Stmt{named(api.SSet, "y"), {Kind: api.SLoop, A: block}, named(api.SSet, "z")}
			}
			f := api.Func{Name: "f", Body: block}
			p := api.Prog{Funcs: []api.Func{f}}
			Text(p)
			Body(f)
			Same(p, p)
			for _, q := range []api.Prog{made(t, "func f { }"), made(t, "func f { set y loop { } set z }"), made(t, "func f { if { use x } }")} {
				if Same(p, q) || Same(q, p) {
					t.Errorf("an endless program is the same as %v", q)
				}
			}
		}
	}
}

// P602: a list that stands in several places, or is a piece of one that it stands in, has an end.
func TestSharedBlocksAreWritten(t *testing.T) {
	l := []api.Stmt{named(api.SUse, "x"), {Kind: api.SLoop}, {Kind: api.SLoop}}
	l[1].A = l[:1]
	l[2].A = l[:2]
	bodies(t, l, "{ use x loop { use x } loop { use x loop { use x } } }")
	m := []api.Stmt{named(api.SUse, "x")}
	want := "{ use x }"
	for range 7 {
		m = []api.Stmt{{Kind: api.SIf, A: m, B: m}, {Kind: api.SLoop, A: m}}
		want = "{ if " + want + " else " + want + " loop " + want + " }"
	}
	bodies(t, m, want)
}

// standsWithin tells by trying all ways whether one of the lists comes by itself, from a block on.
func standsWithin(l []api.Stmt, way [][]api.Stmt) bool {
	if slices.ContainsFunc(way, func(x []api.Stmt) bool { return len(x) == len(l) && len(l) > 0 && &x[0] == &l[0] }) {
		return true
	}
	way = append(way, l)
	for _, s := range l {
		if standsWithin(s.A, way) || standsWithin(s.B, way) {
			return true
		}
	}
	return false
}

// P1: endless ones are told from all others.
func TestEndless(t *testing.T) {
	d := &dice{9}
	found := [2]int{}
	for range 20000 {
		l := make([]api.Stmt, 1+d.of(6))
		for range 1 + d.of(7) {
			i, from := d.of(len(l)), d.of(len(l)+1)
			piece := l[from : from+d.of(len(l)-from+1)]
			if d.of(2) == 0 {
				l[i].A = piece
			} else {
				l[i].B = piece
			}
		}
		want := standsWithin(l, nil)
		if endless(l) != want {
			t.Fatalf("endless is not %v", want)
		}
		if want {
			found[1]++
		} else {
			found[0]++
		}
	}
	if min(found[0], found[1]) < 1000 {
		t.Errorf("too few of one kind were tried: %v", found)
	}
}
