package names

import (
	"fmt"
	"math"
	"slices"
	"strings"
	"testing"

	"deadbolt/api"
	"deadbolt/parse"
)

// words are those of the language.
var words = strings.Fields("var lock func use set unlock call spawn if else loop")

// dice throws the same numbers in every run.
type dice struct{ n uint64 }

func (d *dice) of(k int) int {
	d.n = d.n*6364136223846793005 + 1442695040888963407
	return int(d.n>>33) % k
}

// made is the program of a text that is one.
func made(t *testing.T, s string) api.Prog {
	t.Helper()
	p, at, e := parse.Parse(s)
	if at != 0 || e != api.OK {
		t.Fatalf("Parse(%.200q): %v at %d", s, e, at)
	}
	return p
}

// checks holds what Check says of a program.
func checks(t *testing.T, p api.Prog, at int, e api.Errno) {
	t.Helper()
	if gotAt, got := Check(p); gotAt != at || got != e {
		t.Errorf("Check(%.300s): %v at %d; want %v at %d", parse.Text(p), got, gotAt, e, at)
	}
}

// checksText holds what Check says of a text's program.
func checksText(t *testing.T, s string, at int, e api.Errno) {
	t.Helper()
	checks(t, made(t, s), at, e)
}

// P701: programs that are ones.
func TestCheck(t *testing.T) {
	for _, s := range []string{
		"func main { }", "func main { if { } else { } loop { } }", "func f { } func main { }", "func main { call main spawn main }",
		"var x lock m func main { use x set x lock m unlock m call f spawn f } func f { }",
		// Wherever the declarations stand.
		"func main { use x set x lock m unlock m call f spawn f call main } func f { } lock m var x",
		"var x func main { if { use x } else { set x loop { use x if { } else { use x } } } } lock m func f { loop { lock m call main } unlock m }",
		// What nobody uses.
		"var x var y lock m lock n func f { } func main { } func g { }",
		// Names that begin as others do, or as words.
		"var x var xx var x1 lock mainx func main { use xx use x1 use x } func mai { lock mainx }", "var uses lock locks func main { use uses lock locks }",
		"var abcdefghijkl var abcdefghijk func main { use abcdefghijkl set abcdefghijk }",
	} {
		checksText(t, s, 0, api.OK)
	}
}

// P701: a name that is declared twice, at the later one.
func TestCheckOfTwice(t *testing.T) {
	for _, x := range []struct {
		s  string
		at int
	}{
		{"var x var x", 6}, {"lock x lock x", 7}, {"func x { } func x { }", 11}, {"func main { } func main { }", 14}, {"var x lock x", 6}, {"var x func x { }", 6}, {"lock x func x { }", 7},
		// Variables are ahead of locks, locks ahead of functions, wherever they stand.
		{"lock x var x", 0}, {"func x { } var x", 0}, {"func x { } lock x", 0}, {"func x { } lock x var x", 11},
		{"func main { } lock main", 0}, {"func main { } var main", 0},
		// The first one of several.
		{"var x var x var x", 6}, {"var x var y var y var x", 12}, {"var x var y var x var y", 12}, {"lock m lock m var x var x", 20}, {"func f { } func f { } lock m lock m", 29},
		{"lock y var x var y lock x", 0}, {"lock x var x var y lock y", 0}, {"func m { } func x { } var x lock m", 0},
		// One that has others between it and the first.
		{"var a var b var c var d lock e lock f func g { } func a { }", 49}, {"var a var b lock c lock d lock b", 26},
	} {
		checksText(t, x.s+" func other { }", x.at, api.ErrTwice)
	}
}

// P701: what each kind of statements may name, in each place.
func TestCheckOfNames(t *testing.T) {
	kinds := map[string]string{"use": "var", "set": "var", "lock": "lock", "unlock": "lock", "call": "func", "spawn": "func"}
	for word, kind := range kinds {
		for _, as := range []string{"", "var n", "lock n", "func n { }"} {
			for _, place := range []string{
				"func main { # }", "func main { if { # } }", "func main { if { } else { # } }", "func main { loop { # } }", "func main { loop { } # }", "func main { if { } else { } # }",
				"func main { use x # set y }", "func main { } func f { # }", "func f { # } func main { }", "func main { loop { if { loop { } } else { if { } else { loop { # } } } } }",
			} {
				s := "var x var y " + strings.Replace(place, "#", word+" n", 1)
				e, at := api.ErrName, strings.Index(s, word+" n")
				if strings.HasPrefix(as, kind) {
					e, at = api.OK, 0
				}
				checksText(t, s+" "+as, at, e)
			}
		}
	}
}

// P701: the first one of several, in order of functions and Sites.
func TestCheckOfFirstName(t *testing.T) {
	for _, x := range []struct {
		s  string
		at int
	}{
		{"func main { use x use y }", 12}, {"func main { set x lock x }", 12}, {"var x func main { use x use y use z }", 24},
		{"func g { use z } func f { use y } func main { use x }", 9}, {"func main { } func g { } func f { use x }", 34},
		{"func main { if { use x } use y }", 17}, {"func main { use y if { use x } }", 12}, {"func main { loop { use x } use y }", 19},
		{"func main { if { use x } else { use y } }", 17}, {"func main { if { } else { use y } use z }", 26}, {"func main { if { if { } else { use y } } else { use z } }", 31},
		{"func main { if { loop { use x } use y } else { use z } use u }", 24}, {"func main { loop { if { } else { call g } call h } call i }", 33},
		{"func f { call main } func g { lock main }", 9},
	} {
		checksText(t, x.s, x.at, api.ErrName)
	}
}

// P701: there must be a function main.
func TestCheckOfMain(t *testing.T) {
	for _, s := range []string{"", "var main", "lock main", "var x", "lock m", "func f { }", "var main func f { use main }", "lock main func f { lock main }", "func mai { } func main1 { } func ain { }", "func f { call g } func g { spawn f }"} {
		checksText(t, s, 0, api.ErrMain)
	}
	checks(t, api.Prog{}, 0, api.ErrMain)
	checks(t, api.Prog{Funcs: []api.Func{{Name: "main"}}}, 0, api.OK)
}

// many are declarations of so many names, each with these letters at its beginning.
func many(word, name, behind string, n int) string {
	var b strings.Builder
	for i := range n {
		fmt.Fprint(&b, word, " ", name, i, behind, " ")
	}
	return b.String()
}

// P701: 20 of each kind, and one more.
func TestCheckOfManyDeclarations(t *testing.T) {
	for _, x := range [][3]int{{20, 20, 19}, {20, 0, 0}, {0, 20, 0}, {0, 0, 19}, {1, 2, 3}, {19, 19, 18}} {
		checksText(t, many("var", "v", "", x[0])+many("lock", "m", "", x[1])+many("func", "f", "{}", x[2])+"func main{}", 0, api.OK)
	}
	for _, x := range [][3]int{{21, 0, 0}, {0, 21, 0}, {0, 0, 20}, {21, 21, 20}, {21, 20, 19}, {20, 21, 19}, {20, 20, 20}, {40, 1, 1}, {1, 40, 1}, {1, 1, 40}} {
		checksText(t, many("var", "v", "", x[0])+many("lock", "m", "", x[1])+many("func", "f", "{}", x[2])+"func main{}", 0, api.ErrLong)
	}
	checksText(t, many("func", "f", "{}", 20), 0, api.ErrMain)
	checksText(t, many("func", "f", "{}", 21), 0, api.ErrLong)
}

// P701: 200 statements, and one more, wherever they stand.
func TestCheckOfManyStatements(t *testing.T) {
	use := func(n int) string { return strings.Repeat("use x ", n) }
	for n, e := range map[int]api.Errno{199: api.OK, 200: api.OK, 201: api.ErrLong, 202: api.ErrLong, 250: api.ErrLong} {
		for _, s := range []string{
			"func main { " + use(n) + "}",
			"func main { " + use(n-100) + "} func f { " + use(100) + "}",
			"func main { " + use(n-199) + "} func f { " + use(199) + "}",
			"func main { " + use(1) + "} func f { " + use(n-1) + "} func g { }",
			"func main { if { " + use(n-1) + "} }",
			"func main { if { } else { " + use(n-1) + "} }",
			"func main { loop { " + use(n-1) + "} }",
			"func main { if { " + use(60) + " } else { " + use(n-121) + "} " + use(60) + "}",
			"func main { " + use(n-20) + strings.Repeat("loop {} if {} ", 10) + "}",
			"func main { " + use(n-19) + strings.Repeat("loop { ", 19) + strings.Repeat("} ", 19) + "}",
			"func main { " + use(n-38) + strings.Repeat("if { } else { use x ", 19) + strings.Repeat("} ", 19) + "}",
			"func main { " + use(n-190) + "} " + many("func", "f", "{ "+use(10)+"}", 19),
		} {
			checksText(t, "var x "+s, 0, e)
		}
	}
	// An else and a block are none.
	checksText(t, "func main { "+strings.Repeat("if{}else{}", 190)+"}", 0, api.OK)
}

// P6: of several faults the first one in their order, wherever they stand.
func TestCheckOfSeveralFaults(t *testing.T) {
	long, stmts := many("lock", "m", "", 21), "func f { "+strings.Repeat("loop{}", 201)+"} "
	for _, x := range []struct {
		s  string
		at int
		e  api.Errno
	}{
		{"var x var x " + long + "func main { }", 0, api.ErrLong}, {"var x var x func main { } " + stmts, 0, api.ErrLong},
		{"func main { use x } " + long, 0, api.ErrLong}, {"func main { use x } " + stmts, 0, api.ErrLong}, {long, 0, api.ErrLong}, {stmts, 0, api.ErrLong},
		{many("var", "m", "", 21) + long + many("func", "m", "{ use x }", 21), 0, api.ErrLong},
		{"func main { use y } var x var x", 26, api.ErrTwice}, {"func f { use y } func f { }", 17, api.ErrTwice}, {"var x lock x", 6, api.ErrTwice}, {"var main func main { }", 9, api.ErrTwice}, {"func f { call g } var x lock x", 24, api.ErrTwice},
		{"func f { use x }", 9, api.ErrName}, {"var main func f { call main }", 18, api.ErrName}, {"func f { call main } lock main", 9, api.ErrName},
	} {
		checksText(t, x.s, x.at, x.e)
	}
}

// P701, P5: At may be any; it is told as it is, and counts for nothing else.
func TestCheckOfAnyPlaces(t *testing.T) {
	for _, at := range []int{0, -1, 7, math.MaxInt, math.MinInt} {
		for _, other := range []int{0, -5, math.MaxInt, math.MinInt} {
			stmts := []api.Stmt{{Kind: api.SUse, Name: "x", At: other}, {Kind: api.SIf, At: other, B: []api.Stmt{{Kind: api.SSet, Name: "x", At: other}, {Kind: api.SCall, Name: "x", At: at}}}}
			p := api.Prog{Vars: []api.Decl{{Name: "x", At: other}}, Funcs: []api.Func{{Name: "main", At: other, Body: stmts}}}
			checks(t, p, at, api.ErrName)
			p.Locks = []api.Decl{{Name: "m", At: other}, {Name: "x", At: at}}
			checks(t, p, at, api.ErrTwice)
			p.Vars, p.Locks = []api.Decl{{Name: "y", At: other}, {Name: "y", At: at}}, nil
			checks(t, p, at, api.ErrTwice)
			p.Vars[1].Name, p.Funcs = "x", []api.Func{{Name: "main", At: other}, {Name: "main", At: at}}
			checks(t, p, at, api.ErrTwice)
			p.Funcs = []api.Func{{Name: "f", At: other, Body: stmts[:1]}}
			checks(t, p, 0, api.ErrMain)
			p.Vars = make([]api.Decl, 21)
			checks(t, p, 0, api.ErrLong)
		}
	}
}

// P2: no list and an empty one are the same.
func TestCheckOfEmptyLists(t *testing.T) {
	none := []api.Stmt{}
	p := api.Prog{Vars: []api.Decl{}, Locks: []api.Decl{}, Funcs: []api.Func{}}
	checks(t, p, 0, api.ErrMain)
	p.Funcs = append(p.Funcs, api.Func{Name: "main", Body: none}, api.Func{Name: "f", Body: []api.Stmt{{Kind: api.SIf, A: none, B: none}, {Kind: api.SLoop, A: none}, {Kind: api.SCall, Name: "f", A: none, B: none}}})
	checks(t, p, 0, api.OK)
}

// P701: statements that have no names are not asked for them.
func TestCheckOfNoNames(t *testing.T) {
	for _, name := range []string{"", "x", "m", "main", "other"} {
		body := []api.Stmt{{Kind: api.SIf, Name: name}, {Kind: api.SLoop, Name: name}}
		checks(t, api.Prog{Vars: []api.Decl{{Name: "x"}}, Locks: []api.Decl{{Name: "m"}}, Funcs: []api.Func{{Name: "main", Body: body}}}, 0, api.OK)
	}
}

// P1: whatever is handed in.
func TestCheckOfAnythingEnds(t *testing.T) {
	d := &dice{5}
	texts := []string{"", "x", "main", "lock", "}", "a b", "\xff\x00", "\u00e9", strings.Repeat("n", 99)}
	var stmts func(deep int) []api.Stmt
	stmts = func(deep int) []api.Stmt {
		var l []api.Stmt
		for range d.of(4) {
			s := api.Stmt{Kind: d.of(12) - 1, At: d.of(9) - 4, Name: texts[d.of(len(texts))]}
			if d.of(9) == 0 {
				s.Kind = []int{math.MaxInt, math.MinInt, 1 << 32}[d.of(3)]
			}
			if deep > 0 {
				s.A, s.B = stmts(deep-1), stmts(deep-1)
			}
			l = append(l, s)
		}
		return l
	}
	met := map[api.Errno]int{}
	for range 20000 {
		p := api.Prog{Vars: make([]api.Decl, d.of(2)), Locks: make([]api.Decl, d.of(2)), Funcs: []api.Func{{Name: texts[d.of(9)], Body: stmts(d.of(5))}, {Name: texts[d.of(9)], Body: stmts(d.of(2))}}}
		at, e := Check(p)
		if at2, e2 := Check(p); at2 != at || e2 != e {
			t.Errorf("not the same twice: %v at %d, %v at %d", e, at, e2, at2)
		}
		met[e]++
	}
	if len(met) != 5 {
		t.Errorf("not all answers were met: %v", met)
	}
}

// P1: programs far deeper, and far longer, than a program may be.
func TestCheckOfGreatProgramsEnds(t *testing.T) {
	var a, b []api.Stmt
	for range 1_000_000 {
		a = []api.Stmt{{Kind: api.SLoop, A: a}}
		b = []api.Stmt{{Kind: api.SIf, B: b}}
	}
	for _, l := range [][]api.Stmt{a, b, make([]api.Stmt, 3_000_000), slices.Concat(a, b, a)} {
		checks(t, api.Prog{Funcs: []api.Func{{Name: "main"}, {Name: "f", Body: l}}}, 0, api.ErrLong)
	}
	checks(t, api.Prog{Vars: make([]api.Decl, 3_000_000), Locks: make([]api.Decl, 3_000_000)}, 0, api.ErrLong)
}

// P1: programs whose blocks stand within themselves, and in a ring of others, have more than 200 statements.
func TestCheckOfEndlessProgramsEnds(t *testing.T) {
	for ring := 1; ring <= 40; ring++ {
		l := make([]api.Stmt, ring)
		for i := range l {
			next := l[(i+1)%ring : (i+1)%ring+1]
			l[i] = []api.Stmt{{Kind: api.SLoop, A: next}, {Kind: api.SIf, B: next}, {Kind: api.SIf, A: next, B: next}}[ring%3]
		}
		checks(t, api.Prog{Funcs: []api.Func{{Name: "main", Body: l[:1]}}}, 0, api.ErrLong)
	}
}

// P701: a block that stands in several places counts in each.
func TestCheckOfSharedBlocks(t *testing.T) {
	l := []api.Stmt{{Kind: api.SUse, Name: "x", At: 3}}
	for range 4 {
		l = []api.Stmt{{Kind: api.SIf, A: l, B: l}, {Kind: api.SLoop, A: l}} // each time three times as many, and two
	}
	p := api.Prog{Vars: []api.Decl{{Name: "x"}}, Funcs: []api.Func{{Name: "main", Body: l}}}
	checks(t, p, 0, api.OK) // 161 statements
	p.Funcs = append(p.Funcs, api.Func{Name: "f", Body: l[0].A})
	checks(t, p, 0, api.ErrLong) // and 53
	p.Funcs[1].Body = slices.Repeat([]api.Stmt{{Kind: api.SCall, Name: "f"}}, 39)
	checks(t, p, 0, api.OK)
	p.Vars[0].Name = "y"
	checks(t, p, 3, api.ErrName)
}
