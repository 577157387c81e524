package graph

import (
	"fmt"
	"math"
	"strings"
	"testing"

	"deadbolt/api"
	"deadbolt/names"
	"deadbolt/parse"
)

// dice throws the same numbers in every run.
type dice struct{ n uint64 }

func (d *dice) of(k int) int {
	d.n = d.n*6364136223846793005 + 1442695040888963407
	return int(d.n>>33) % k
}

// made is the program of a text that is one (W2).
func made(t *testing.T, s string) api.Prog {
	t.Helper()
	p, at, e := parse.Parse(s)
	if e == api.OK {
		at, e = names.Check(p)
	}
	if at != 0 || e != api.OK {
		t.Fatalf("%.300q: %v at %d", s, e, at)
	}
	return p
}

// told is an answer, as a test writes it; no list and an empty one are the same.
func told(answer any) string { return fmt.Sprint(answer) }

// answers holds what is answered of a program's function: whom it calls, whom it spawns, whom it reaches.
func answers(t *testing.T, p api.Prog, f, calls, spawns, reach string) {
	t.Helper()
	if got := told(Calls(p, f)); got != calls {
		t.Errorf("Calls(%.300s, %s): %s; want %s", parse.Text(p), f, got, calls)
	}
	if got := told(Spawns(p, f)); got != spawns {
		t.Errorf("Spawns(%.300s, %s): %s; want %s", parse.Text(p), f, got, spawns)
	}
	if got := told(Reach(p, f)); got != reach {
		t.Errorf("Reach(%.300s, %s): %s; want %s", parse.Text(p), f, got, reach)
	}
}

// P801: whom functions call, spawn, reach.
func TestCallsSpawnsReach(t *testing.T) {
	for _, x := range []struct{ s, f, calls, spawns, reach string }{
		{"func main { }", "main", "[]", "[]", "[main]"},
		{"func main { call main }", "main", "[main]", "[]", "[main]"},
		{"func main { spawn main }", "main", "[]", "[main]", "[main]"},
		{"func main { call f } func f { }", "main", "[f]", "[]", "[f main]"},
		{"func main { call f } func f { }", "f", "[]", "[]", "[f]"},
		{"func main { spawn f } func f { call main }", "main", "[]", "[f]", "[main]"},
		{"func main { spawn f } func f { call main }", "f", "[main]", "[]", "[f main]"},
		{"func main { call f spawn f } func f { spawn g } func g { }", "main", "[f]", "[f]", "[f main]"},
		// A spawn on the way leads no further, a call behind it does.
		{"func main { call f } func f { spawn g call h } func g { call i } func h { call g } func i { }", "main", "[f]", "[]", "[f g h i main]"},
		{"func main { call f } func f { spawn g call h } func g { call i } func h { } func i { }", "main", "[f]", "[]", "[f h main]"},
		// Rings, and ways that lead into them, out of them, to one place.
		{"func main { call a } func a { call b } func b { call c } func c { call a }", "main", "[a]", "[]", "[a b c main]"},
		{"func main { call a } func a { call b } func b { call c } func c { call a }", "b", "[c]", "[]", "[a b c]"},
		{"func main { call a } func a { call b call z } func b { call a } func z { }", "b", "[a]", "[]", "[a b z]"},
		{"func main { call a call b } func a { call c } func b { call c } func c { call d } func d { }", "main", "[a b]", "[]", "[a b c d main]"},
		{"func main { call a call b } func a { call c } func b { call c } func c { call d } func d { }", "b", "[c]", "[]", "[b c d]"},
		// Whoever calls it is not reached.
		{"func main { } func a { call main } func b { call a }", "main", "[]", "[]", "[main]"},
		// Variables and locks are none.
		{"var x lock m func main { use x set x lock m unlock m call f } func f { lock m spawn main }", "main", "[f]", "[]", "[f main]"},
	} {
		answers(t, made(t, x.s), x.f, x.calls, x.spawns, x.reach)
	}
}

// P801: each place where a statement may stand, of each kind.
func TestCallsInEachPlace(t *testing.T) {
	for _, place := range []string{
		"#", "# use x", "use x #", "call main # spawn main", "if { # }", "if { } else { # }", "if { # } else { use x }", "if { } #", "if { } else { } #", "loop { # }", "loop { } #", "loop { use x # }", "if { use x } else { use x # }",
		"loop { if { use x } else { loop { if { loop { # } } } } }", "if { if { if { } else { } } else { # } } else { }", "if { loop { use x } } else { loop { use x # use x } } use x", strings.Repeat("loop { ", 19) + "#" + strings.Repeat(" }", 19), strings.Repeat("if { } else { ", 19) + "#" + strings.Repeat(" }", 19),
	} {
		for _, x := range [][4]string{ // a statement, whom it calls, spawns, reaches
			{"call f", "f", "", "f "}, {"spawn f", "", "f", ""}, {"use f0", "", "", ""}, {"lock f1", "", "", ""}, {"call f spawn f call f", "f", "f", "f "}, {"spawn f spawn g call g", "g", "f g", "g "},
		} {
			calls, spawns := strings.Fields(x[1]), strings.Fields(x[2])
			if strings.Contains(place, "call main") {
				calls, spawns = append(calls, "main"), append(spawns, "main")
			}
			s := "var x var f0 lock f1 func main { " + strings.Replace(place, "#", x[0], 1) + " } func f { } func g { }"
			answers(t, made(t, s), "main", told(calls), told(spawns), "["+x[3]+"main]")
			answers(t, made(t, s), "g", "[]", "[]", "[g]")
		}
	}
}

// W5: by bytes, none twice, wherever they stand.
func TestCallsAreSets(t *testing.T) {
	p := made(t, "func z { } func b { } func a1 { } func main { call z call b call a call b spawn ab call ab if { call a0 call z } else { call a1 spawn z } loop { spawn a0 call b spawn ab } spawn z call main } func ab { } func a { } func a0 { } func m { call z call z }")
	answers(t, p, "main", "[a a0 a1 ab b main z]", "[a0 ab z]", "[a a0 a1 ab b main z]")
	answers(t, p, "m", "[z]", "[]", "[m z]")
}

// P801: as many functions, statements and blocks as a program may have; the last one counts too.
func TestCallsOfGreatPrograms(t *testing.T) {
	use := func(n int) string { return strings.Repeat("use x ", n) }
	for _, s := range []string{
		use(199) + "call f", use(198) + "loop { call f }", use(198) + "if { } else { call f }", "if { " + use(99) + "} else { " + use(99) + "call f }", "loop { " + use(197) + "} spawn f call f", strings.Repeat("if { } ", 199) + "call f",
		use(180) + strings.Repeat("loop { ", 19) + "call f" + strings.Repeat(" }", 19), "call f " + use(199), use(100) + "call f " + use(99),
	} {
		spawns := "[]"
		if strings.Contains(s, "spawn") {
			spawns = "[f]"
		}
		answers(t, made(t, "var x func main { "+s+" } func f { }"), "main", "[f]", spawns, "[f main]")
	}
	// A ring of 20 functions.
	l := []string{"main"}
	for i := range 19 {
		l = append(l, fmt.Sprint("f", i))
	}
	ring := ""
	for i, f := range l {
		ring += " func " + f + " { call " + l[(i+1)%20] + " spawn " + l[(i+7)%20] + " }"
	}
	all := told(setOf(l))
	answers(t, made(t, ring), "main", "[f0]", "[f6]", all)
	answers(t, made(t, ring), "f18", "[main]", "[f5]", all)
}

// P801: names and places of what has none, or of other kinds, do not count.
func TestCallsOfKindsAlone(t *testing.T) {
	for kind := -1; kind < 12; kind++ {
		calls, spawns, reach := "[]", "[]", "[main]"
		switch kind {
		case api.SCall:
			calls, reach = "[f]", "[f main]"
		case api.SSpawn:
			spawns = "[f]"
		}
		for _, at := range []int{0, -1, math.MaxInt, math.MinInt} {
			body := []api.Stmt{{Kind: kind, Name: "f", At: at}}
			p := api.Prog{Vars: []api.Decl{{Name: "f", At: at}}, Locks: []api.Decl{{Name: "f", At: at}}, Funcs: []api.Func{{Name: "f", At: at}, {Name: "main", At: at, Body: body}}}
			answers(t, p, "main", calls, spawns, reach)
			p.Funcs[1].Body = []api.Stmt{{Kind: api.SIf, A: []api.Stmt{}, B: body}}
			answers(t, p, "main", calls, spawns, reach)
			p.Funcs[1].Body = []api.Stmt{{Kind: api.SLoop, A: body, B: []api.Stmt{}}}
			answers(t, p, "main", calls, spawns, reach)
		}
	}
}

// P1, P8: what is no function calls none, and is none that is called.
func TestCallsOfNoFunctions(t *testing.T) {
	p := made(t, "var x lock m func main { use x lock m call f } func f { }")
	for _, f := range []string{"", "x", "m", "g", "mai", "main ", "call", "\xff", strings.Repeat("main", 1000)} {
		answers(t, p, f, "[]", "[]", "[]")
		answers(t, api.Prog{}, f, "[]", "[]", "[]")
	}
	p.Funcs[0].Body = []api.Stmt{{Kind: api.SCall, Name: "x"}, {Kind: api.SCall, Name: "m"}, {Kind: api.SCall}, {Kind: api.SCall, Name: "f"}, {Kind: api.SSpawn, Name: "g"}}
	answers(t, p, "main", "[f]", "[]", "[f main]")
}

// allOf calls each face with a program, each with each of some names.
func allOf(p api.Prog, l ...string) string {
	all := told(Order(p))
	for _, f := range l {
		all += told(Calls(p, f)) + told(Spawns(p, f)) + told(Reach(p, f))
	}
	return all
}

// P1, P8: programs that are none: whatever their names, kinds and blocks.
func TestAnyProgramsEnd(t *testing.T) {
	d := &dice{5}
	texts := []string{"", "x", "main", "call", "}", "a b", "\xff\x00", "\u00e9", strings.Repeat("n", 99)}
	var stmts func(deep int) []api.Stmt
	stmts = func(deep int) []api.Stmt {
		var l []api.Stmt
		for range d.of(4) {
			s := api.Stmt{Kind: d.of(12) - 1, At: d.of(9) - 4, Name: texts[d.of(len(texts))]}
			if d.of(9) == 0 {
				s.Kind = []int{math.MaxInt, math.MinInt, 1 << 32}[d.of(3)]
			}
			if deep > 0 {
				s.A, s.B = stmts(deep-1), stmts(deep-1)
			}
			l = append(l, s)
		}
		return l
	}
	for range 5000 {
		p := api.Prog{Vars: make([]api.Decl, d.of(2)), Locks: make([]api.Decl, d.of(2))}
		for range d.of(6) {
			p.Funcs = append(p.Funcs, api.Func{Name: texts[d.of(9)], Body: stmts(d.of(4))})
		}
		if first, second := allOf(p, texts...), allOf(p, texts...); first != second { // P3
			t.Errorf("not the same twice: %s, %s", first, second)
		}
	}
}

// P1: blocks that stand within themselves, in a ring of others, or so often that nobody could go through all of them.
func TestEndlessProgramsEnd(t *testing.T) {
	for ring := 1; ring <= 40; ring++ {
		for kind := range 5 { // the last one: some of each
			l := make([]api.Stmt, ring)
			for i := range l {
				next := l[(i+1)%ring : (i+1)%ring+1]
				each := []api.Stmt{{Kind: api.SLoop, A: next}, {Kind: api.SIf, B: next}, {Kind: api.SIf, A: next, B: next}, {Kind: api.SCall, Name: "f", A: next, B: l}}
				l[i] = append(each, each[i%4])[kind]
			}
			p := api.Prog{Funcs: []api.Func{{Name: "main", Body: l[:1]}, {Name: "f", Body: l}}}
			if first, second := allOf(p, "main", "f"), allOf(p, "main", "f"); first != second {
				t.Errorf("not the same twice: %s, %s", first, second)
			}
		}
	}
	l := []api.Stmt{{Kind: api.SCall, Name: "f"}}
	for range 100 {
		l = []api.Stmt{{Kind: api.SIf, A: l, B: l}}
	}
	allOf(api.Prog{Funcs: []api.Func{{Name: "main", Body: l}, {Name: "f", Body: l}}}, "main", "f")
}

// P1: programs far deeper, and far longer, than a program may be.
func TestGreatProgramsEnd(t *testing.T) {
	var a, b []api.Stmt
	for range 1_000_000 {
		a = []api.Stmt{{Kind: api.SLoop, A: a}}
		b = []api.Stmt{{Kind: api.SIf, B: b}}
	}
	for _, l := range [][]api.Stmt{a, b, make([]api.Stmt, 3_000_000)} {
		allOf(api.Prog{Funcs: []api.Func{{Name: "main", Body: l}, {Name: "f", Body: l}}}, "main", "f")
	}
	const many = 100_000
	var p api.Prog
	for i := range many {
		p.Funcs = append(p.Funcs, api.Func{Name: fmt.Sprint("f", i), Body: []api.Stmt{{Kind: api.SCall, Name: fmt.Sprint("f", i+1)}}})
	}
	allOf(p, "f0", "f99999")
	p.Funcs = append(p.Funcs, api.Func{Name: fmt.Sprint("f", many), Body: []api.Stmt{{Kind: api.SCall, Name: "f0"}}})
	allOf(p, "f0", "f99999")
}
