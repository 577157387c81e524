package names

import (
	"fmt"
	"strings"
	"testing"

	"deadbolt/api"
)

// files are those of names and texts, by turns.
func files(l ...string) []api.File {
	var all []api.File
	for i := 0; i+1 < len(l); i += 2 {
		all = append(all, api.File{Name: l[i], Text: l[i+1]})
	}
	return all
}

// answer is what Join answers, as a text.
func answer(p api.Prog, at int, e api.Errno) string { return fmt.Sprint(p, at, e) }

// joins holds the program of files against what is told of it.
func joins(t *testing.T, l []api.File, want string) {
	t.Helper()
	if got := answer(Join(l)); got != want+" 0 ok" {
		t.Errorf("Join(%.200q):\n%s; want\n%s", l, got, want)
	}
}

// refuses holds that Join answers a place, an error and nothing else (P4).
func refuses(t *testing.T, l []api.File, at int, e api.Errno) {
	t.Helper()
	p, gotAt, got := Join(l)
	if gotAt != at || got != e || p.Vars != nil || p.Locks != nil || p.Funcs != nil {
		t.Errorf("Join(%.200q): %v at %d, %v; want %v at %d", l, got, gotAt, p, e, at)
	}
}

// P701: programs of files, each written out.
func TestJoin(t *testing.T) {
	for _, x := range []struct {
		l    []api.File
		want string
	}{
		{files("a", "func main { }"), "{[] [] [{main 0 []}]}"},
		{files("a", " \n func main { }\n"), "{[] [] [{main 3 []}]}"},
		{files("a", "", "b", " \t", "c", "func main { }"), "{[] [] [{main 20000 []}]}"},
		{files("a", "func main { }", "b", "", "c", "var x"), "{[{x 20000}] [] [{main 0 []}]}"},
		// The declarations of each kind in the order of the files' names, not of the list.
		{files("c", "var c lock cc func ccc { }", "a", "func main { } var a lock aa", "b", "lock bb func bbb { } var b"),
			"{[{a 14} {b 10021} {c 20000}] [{aa 20} {bb 10000} {cc 20006}] [{main 0 []} {bbb 10008 []} {ccc 20014 []}]}"},
		{files("b", "var b var a", "a", "var d var c func main { }"), "{[{d 0} {c 6} {b 10000} {a 10006}] [] [{main 12 []}]}"},
		// Names in the order of their bytes.
		{files("b", "var v3", "ab", "var v2", "a", "var v0", "a1", "var v1 func main { }", "b0", "var v4", "ba", "var v5"), "{[{v0 0} {v1 10000} {v2 20000} {v3 30000} {v4 40000} {v5 50000}] [] [{main 10007 []}]}"},
		// What one file declares, another one uses.
		{files("b", "func main { use x lock m call f spawn main }", "a", "var x func f { call main unlock m }", "c", "lock m"),
			"{[{x 0}] [{m 20000}] [{f 6 [{5 15 main [] []} {4 25 m [] []}]} {main 10000 [{1 10012 x [] []} {3 10018 m [] []} {5 10025 f [] []} {6 10032 main [] []}]}]}"},
		// Places within blocks.
		{files("a", "var x", "b", "func main{use x}", "c", "func f{if{use x loop{set x}}else{if{}else{use x}}set x}"),
			"{[{x 0}] [] [{main 10000 [{1 10010 x [] []}]} {f 20000 [{7 20007  [{1 20010 x [] []} {8 20016  [{2 20021 x [] []}] []}] [{7 20033  [] [{1 20042 x [] []}]}]} {2 20049 x [] []}]}]}"},
		// Names of files are none of the program's.
		{files("x", "var main1", "main", "var x func main { use x }"), "{[{x 0} {main1 10000}] [] [{main 6 [{1 18 x [] []}]}]}"},
	} {
		joins(t, x.l, x.want)
	}
}

// P701: eight files; each is 10000 further on.
func TestJoinOfEightFiles(t *testing.T) {
	l := files("h", "func main { call f1 call f2 call f3 call f4 call f5 call f6 call f7 }")
	want := ""
	for i := 1; i <= 7; i++ {
		name := string(rune('h' - i))
		l = append(l, api.File{Name: name, Text: fmt.Sprintf("  func f%d { if { } else { call main } }", i)})
		want = fmt.Sprintf("{f%d %d [{7 %d  [] [{5 %d main [] []}]}]} ", i, (7-i)*10000+2, (7-i)*10000+12, (7-i)*10000+26) + want
	}
	want += "{main 70000 ["
	for i := 1; i <= 7; i++ {
		want += fmt.Sprintf("{5 %d f%d [] []} ", 70000+12+8*(i-1), i)
	}
	joins(t, l, "{[] [] ["+strings.TrimSuffix(want, " ")+"]}]}")
	refuses(t, append(l, api.File{Name: "a0"}), 0, api.ErrArg)
}

// P701, P401: what is no sound set of files, whatever else is wrong.
func TestJoinOfUnsoundFiles(t *testing.T) {
	wrong := []string{"", "a ", " a", "A", "1", "1a", "a-b", "a_", "\u00e9", "a\u00e9", "a\xff", "a\x00", "a\n", "{", "abcdefghijklm", strings.Repeat("n", 2000)}
	for _, name := range append(wrong, words...) {
		for _, text := range []string{"", "func main { }", "var !"} {
			refuses(t, files(name, text), 0, api.ErrArg)
			refuses(t, files("a", "func main { }", name, text), 0, api.ErrArg)
			refuses(t, files(name, text, "b", "func main { } }"), 0, api.ErrArg)
		}
	}
	for _, l := range [][]api.File{
		files("a", "", "a", ""), files("a", "func main { }", "a", "func main { }"), files("a", "var x", "b", "func main { }", "a", "var y"), files("a", "!", "b", "", "c", "", "c", "!"),
		files("b", "", "a", "func main { }", "b", ""), files("a", "", "b", "", "c", "", "d", "", "e", "", "f", "", "g", "", "a", ""),
	} {
		refuses(t, l, 0, api.ErrArg)
	}
	for _, name := range []string{"abcdefghijkl", "a", "z9", "main", "uses"} {
		joins(t, files(name, "func main { }"), "{[] [] [{main 0 []}]}")
	}
	eight := files("a", "", "b", "", "c", "", "d", "func main { }", "e", "", "f", "", "g", "", "h", "")
	joins(t, eight, "{[] [] [{main 30000 []}]}")
	refuses(t, append(eight, api.File{Name: "i"}), 0, api.ErrArg)
	refuses(t, append(eight, eight...), 0, api.ErrArg)
	refuses(t, make([]api.File, 100000), 0, api.ErrArg)
}

// P701, P401: texts of 2000 bytes, and of one more.
func TestJoinOfLongTexts(t *testing.T) {
	long := func(s string, n int) string { return strings.Repeat(" ", n-len(s)) + s }
	joins(t, files("a", long("func main { }", 2000)), "{[] [] [{main 1987 []}]}")
	joins(t, files("b", long("var x", 2000), "a", long("func main { }", 2000), "c", long("var y", 1999)), "{[{x 11995} {y 21994}] [] [{main 1987 []}]}")
	for _, s := range []string{"func main { }", "!", "var", ""} {
		refuses(t, files("a", long(s, 2001)), 0, api.ErrArg)
		refuses(t, files("a", "func main { }", "b", long(s, 2001)), 0, api.ErrArg)
		refuses(t, files("b", long(s, 3000), "a", "}"), 0, api.ErrArg)
	}
	refuses(t, files("a", "", "b", long("var", 2000)), 12000, api.ErrForm)
	refuses(t, files("a", "", "b", long("!", 2000)), 11999, api.ErrToken)
}

// P701: the error of the first file, by names, whose text has one; with its place.
func TestJoinOfWrongTexts(t *testing.T) {
	deep := "func f {" + strings.Repeat("loop{", 20)
	for _, x := range []struct {
		l  []api.File
		at int
		e  api.Errno
	}{
		{files("a", "!"), 0, api.ErrToken}, {files("a", "var !"), 4, api.ErrToken}, {files("a", "var"), 3, api.ErrForm}, {files("a", "}"), 0, api.ErrForm}, {files("a", deep), 107, api.ErrDeep},
		{files("a", "func main { }", "b", "!"), 10000, api.ErrToken}, {files("a", "func main { }", "b", "var x }"), 10006, api.ErrForm}, {files("b", deep, "a", "func main { }"), 10107, api.ErrDeep},
		{files("c", " !", "b", "var", "a", ""), 10003, api.ErrForm}, {files("c", "var", "b", " !", "a", ""), 10001, api.ErrToken}, {files("b", "!", "a", deep, "c", "var"), 107, api.ErrDeep},
		{files("h", "  }", "g", "", "f", "", "e", "", "d", "", "c", "", "b", "", "a", ""), 70002, api.ErrForm}, {files("a", "", "b", "", "c", "", "d", "func", "e", "}"), 30004, api.ErrForm},
		// Each text is read alone.
		{files("a", "var", "b", "x func main { }"), 3, api.ErrForm}, {files("a", "func main {", "b", "}"), 11, api.ErrForm}, {files("a", "func main { }", "b", "use x"), 10000, api.ErrForm},
		// They go ahead of all that Check says.
		{files("a", "", "b", "var x var x func f { use y } !"), 10029, api.ErrToken}, {files("a", "var x var x", "b", "}"), 10000, api.ErrForm}, {files("a", "func f { use y }", "b", "func"), 10004, api.ErrForm}, {files("a", many("var", "v", "", 21), "b", "{"), 10000, api.ErrForm},
	} {
		refuses(t, x.l, x.at, x.e)
	}
}

// P701: Check's errors, of all files together.
func TestJoinOfWrongNames(t *testing.T) {
	for _, x := range []struct {
		l  []api.File
		at int
		e  api.Errno
	}{
		{nil, 0, api.ErrMain}, {[]api.File{}, 0, api.ErrMain}, {files("a", ""), 0, api.ErrMain}, {files("main", ""), 0, api.ErrMain}, {files("a", "var x", "b", "func f { use x }"), 0, api.ErrMain}, {files("a", "var main", "b", "func f { }"), 0, api.ErrMain},
		{files("a", "func main { }", "b", "func main { }"), 10000, api.ErrTwice}, {files("b", "var x", "a", " func main { } var x"), 10000, api.ErrTwice}, {files("a", "lock x", "b", "func main { }", "c", "  var x"), 0, api.ErrTwice}, {files("a", "func x { }", "b", "func main { } lock x"), 0, api.ErrTwice},
		{files("a", "var x", "b", "var y", "c", "var z var x", "d", "var y"), 20006, api.ErrTwice},
		{files("a", "func main { use x }"), 12, api.ErrName}, {files("a", "lock x", "b", "func main { use x }"), 10012, api.ErrName}, {files("c", "func f { loop { if { } else { call x } } }", "b", "func main { call f }", "a", "var x"), 20030, api.ErrName},
		{files("b", "func main { use x }", "a", "func f { use y }"), 9, api.ErrName}, {files("a", "func f { use x } func main { use y }", "b", "var x", "c", "func g { use z }"), 29, api.ErrName},
		{files("a", many("var", "x", "", 10), "b", many("var", "y", "", 11)+"func main { }"), 0, api.ErrLong}, {files("a", many("lock", "x", "", 20)+" func main { }", "b", "lock y"), 0, api.ErrLong}, {files("a", many("func", "f", "{}", 20), "b", " func main { }"), 0, api.ErrLong},
		{files("b", "func main { "+strings.Repeat("loop{}", 100)+"}", "a", "func f { "+strings.Repeat("if{}", 101)+"}"), 0, api.ErrLong}, {files("a", "", "b", "var x var x func f { use y }", "c", many("lock", "m", "", 21)), 0, api.ErrLong},
		{files("a", "func f { use y }", "b", "func main { }", "c", "var x lock x"), 20006, api.ErrTwice}, {files("a", "var main", "b", "func f { use y }"), 10009, api.ErrName},
	} {
		refuses(t, x.l, x.at, x.e)
	}
}

// P701: as many of all as there may be, in several files.
func TestJoinOfManyDeclarations(t *testing.T) {
	l := files("a", many("var", "v", "", 20), "b", many("lock", "m", "", 20), "c", many("func", "f", "{}", 10), "d", many("func", "g", "{}", 9), "e", "func main { "+strings.Repeat("loop{}", 200)+"}")
	p, at, e := Join(l)
	if at != 0 || e != api.OK || len(p.Vars) != 20 || len(p.Locks) != 20 || len(p.Funcs) != 20 || len(p.Funcs[19].Body) != 200 {
		t.Fatalf("%v at %d: %v", e, at, p)
	}
	for i, s := range p.Funcs[19].Body {
		if s.At != 40012+6*i {
			t.Errorf("statement %d at %d", i, s.At)
		}
	}
}
