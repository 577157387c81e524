package parse

import (
	"fmt"
	"strings"
	"testing"

	"deadbolt/api"
)

// words are those of the language.
var words = strings.Fields("var lock func use set unlock call spawn if else loop")

// dice throws the same numbers in every run.
type dice struct{ n uint64 }

func (d *dice) of(k int) int {
	d.n = d.n*6364136223846793005 + 1442695040888963407
	return int(d.n>>33) % k
}

// told is what Parse answers, as a text.
func told(p api.Prog, at int, e api.Errno) string { return fmt.Sprint(p, at, e) }

// parses holds a text's program against what is told of it.
func parses(t *testing.T, s, want string) {
	t.Helper()
	if got := told(Parse(s)); got != want+" 0 ok" {
		t.Errorf("Parse(%.200q):\n%s; want\n%s", s, got, want)
	}
}

// refuses holds that Parse answers a place, an error and nothing else (P4).
func refuses(t *testing.T, s string, at int, e api.Errno) {
	t.Helper()
	if got, want := told(Parse(s)), told(api.Prog{}, at, e); got != want {
		t.Errorf("Parse(%.200q) of %d bytes: %.200s; want %s", s, len(s), got, want)
	}
}

// made is the program of a text that is one.
func made(t *testing.T, s string) api.Prog {
	t.Helper()
	p, at, e := Parse(s)
	if at != 0 || e != api.OK {
		t.Fatalf("Parse(%.200q): %v at %d", s, e, at)
	}
	return p
}

// P601: programs, each written out.
func TestParse(t *testing.T) {
	for _, x := range []struct{ s, want string }{
		{"", "{[] [] []}"},
		{" \t\n", "{[] [] []}"},
		{"var x", "{[{x 0}] [] []}"},
		{"lock m", "{[] [{m 0}] []}"},
		{"func f { }", "{[] [] [{f 0 []}]}"},
		{"func f{}", "{[] [] [{f 0 []}]}"},
		{"\nfunc\tf\n{\n}\n", "{[] [] [{f 1 []}]}"},
		// Variables, locks, functions, each kind in order.
		{"var b var a", "{[{b 0} {a 6}] [] []}"},
		{"lock n lock m", "{[] [{n 0} {m 7}] []}"},
		{"func g{}func f{}", "{[] [] [{g 0 []} {f 8 []}]}"},
		{"func f { } lock m var x lock n func g { } var y", "{[{x 18} {y 42}] [{m 11} {n 24}] [{f 0 []} {g 31 []}]}"},
		// Names are not held against each other here.
		{"var x var x lock x func x { use y call z }", "{[{x 0} {x 6}] [{x 12}] [{x 19 [{1 28 y [] []} {5 34 z [] []}]}]}"},
		// Statements of all kinds.
		{"func f { use x }", "{[] [] [{f 0 [{1 9 x [] []}]}]}"},
		{"func f { set x }", "{[] [] [{f 0 [{2 9 x [] []}]}]}"},
		{"func f { lock x }", "{[] [] [{f 0 [{3 9 x [] []}]}]}"},
		{"func f { unlock x }", "{[] [] [{f 0 [{4 9 x [] []}]}]}"},
		{"func f { call x }", "{[] [] [{f 0 [{5 9 x [] []}]}]}"},
		{"func f { spawn x }", "{[] [] [{f 0 [{6 9 x [] []}]}]}"},
		{"func f { if { } }", "{[] [] [{f 0 [{7 9  [] []}]}]}"},
		{"func f { if { } else { } }", "{[] [] [{f 0 [{7 9  [] []}]}]}"},
		{"func f { if { use x } }", "{[] [] [{f 0 [{7 9  [{1 14 x [] []}] []}]}]}"},
		{"func f { if { use x } else { } }", "{[] [] [{f 0 [{7 9  [{1 14 x [] []}] []}]}]}"},
		{"func f { if { } else { use x } }", "{[] [] [{f 0 [{7 9  [] [{1 23 x [] []}]}]}]}"},
		{"func f { if { use x } else { set y set z } }", "{[] [] [{f 0 [{7 9  [{1 14 x [] []}] [{2 29 y [] []} {2 35 z [] []}]}]}]}"},
		{"func f { loop { } }", "{[] [] [{f 0 [{8 9  [] []}]}]}"},
		{"func f { loop { set x use x } }", "{[] [] [{f 0 [{8 9  [{2 16 x [] []} {1 22 x [] []}] []}]}]}"},
		// What stands behind a block is no more within it.
		{"func f { if { } use x loop { } set x }", "{[] [] [{f 0 [{7 9  [] []} {1 16 x [] []} {8 22  [] []} {2 31 x [] []}]}]}"},
		{"func f { if { } if { } else { } if { } }", "{[] [] [{f 0 [{7 9  [] []} {7 16  [] []} {7 32  [] []}]}]}"},
		// An else is of the nearest if that has none.
		{"func f{if{if{}else{use x}}}", "{[] [] [{f 0 [{7 7  [{7 10  [] [{1 19 x [] []}]}] []}]}]}"},
		{"func f{if{if{}}else{use x}}", "{[] [] [{f 0 [{7 7  [{7 10  [] []}] [{1 20 x [] []}]}]}]}"},
		{"func f{if{}else{if{}else{use x}}}", "{[] [] [{f 0 [{7 7  [] [{7 16  [] [{1 25 x [] []}]}]}]}]}"},
	} {
		parses(t, x.s, x.want)
	}
}

// P601: a token that may not stand where it stands; each written out.
func TestParseOfWrongForms(t *testing.T) {
	for _, x := range []struct {
		s  string
		at int
	}{
		{"x", 0}, {" x", 1}, {"{", 0}, {"}", 0}, {"else", 0}, {"if { }", 0}, {"loop { }", 0}, {"use x", 0}, {"unlock m", 0}, {"spawn f", 0},
		{"var x y", 6}, {"var x }", 6}, {"var x { }", 6}, {"lock m else", 7}, {"func f { } use x", 11}, {"func f { } { }", 11}, {"func f { } }", 11},
		{"var {", 4}, {"var }", 4}, {"var var x", 4}, {"lock lock", 5}, {"lock { }", 5}, {"func { }", 5}, {"func func f { }", 5},
		{"func f x", 7}, {"func f }", 7}, {"func f var x", 7}, {"func f use x", 7}, {"func f func g { }", 7},
		{"func f { x }", 9}, {"func f { { } }", 9}, {"func f { var x }", 9}, {"func f { func g { } }", 9}, {"func f { else { } }", 9},
		{"func f { use }", 13}, {"func f { set { }", 13}, {"func f { lock use x }", 14}, {"func f { call main { } }", 19}, {"func f { spawn f g }", 17},
		{"func f { if }", 12}, {"func f { if x }", 12}, {"func f { if if { } }", 12}, {"func f { if else { } }", 12},
		{"func f { loop }", 14}, {"func f { loop x { } }", 14}, {"func f { loop { } else { } }", 18},
		{"func f { if { } else }", 21}, {"func f { if { } else x }", 21}, {"func f { if { } else if { } }", 21}, {"func f { if { } else else { } }", 21},
		{"func f { if { } else { } else { } }", 25}, {"func f { if { } use x else { } }", 22}, {"func f { if { else { } } }", 14},
		// The first one of several.
		{"var x x var lock", 6}, {"func f { x { } y", 9}, {"} {", 0},
	} {
		refuses(t, x.s, x.at, api.ErrForm)
	}
}

// P601: where a token is lacking behind the last one, the place is the text's length.
func TestParseOfCutTexts(t *testing.T) {
	for _, s := range []string{
		"var", "lock", "func", "func f", "func f {", "func f { use", "func f { use x", "func f { set", "func f { lock", "func f { unlock", "func f { call", "func f { spawn",
		"func f { if", "func f { if {", "func f { if { }", "func f { if { } else", "func f { if { } else {", "func f { if { } else { }",
		"func f { loop", "func f { loop {", "func f { loop { }", "var x func f { } lock",
	} {
		for _, behind := range []string{"", " ", "\n", " \t\n  "} {
			refuses(t, s+behind, len(s+behind), api.ErrForm)
		}
	}
}

// P601, W1: what is no name is none of a declaration, none of a statement.
func TestParseOfNames(t *testing.T) {
	shapes := []struct{ ahead, behind, told string }{
		{"var ", "", "{[{%s 0}] [] []}"}, {"lock ", "", "{[] [{%s 0}] []}"}, {"func ", " { }", "{[] [] [{%s 0 []}]}"},
		{"func f { use ", " }", "{[] [] [{f 0 [{1 9 %s [] []}]}]}"}, {"func f { set ", " }", "{[] [] [{f 0 [{2 9 %s [] []}]}]}"},
		{"func f { lock ", " }", "{[] [] [{f 0 [{3 9 %s [] []}]}]}"}, {"func f { unlock ", " }", "{[] [] [{f 0 [{4 9 %s [] []}]}]}"},
		{"func f { call ", " }", "{[] [] [{f 0 [{5 9 %s [] []}]}]}"}, {"func f { spawn ", " }", "{[] [] [{f 0 [{6 9 %s [] []}]}]}"},
	}
	for _, x := range shapes {
		for _, name := range []string{"a", "z9", "main", "uses", "iff", "abcdefghijkl", "a12345678901"} {
			parses(t, x.ahead+name+x.behind, fmt.Sprintf(x.told, name))
		}
		for _, row := range append([]string{"abcdefghijklm", "a123456789012", strings.Repeat("n", 1900)}, words...) {
			refuses(t, x.ahead+row+x.behind, len(x.ahead), api.ErrForm)
		}
		refuses(t, x.ahead+"1"+x.behind, len(x.ahead), api.ErrToken)
	}
}

// P601: the errors of Tokens, with their places, go ahead of all others, wherever these are.
func TestParseOfWrongTokens(t *testing.T) {
	refuses(t, "!", 0, api.ErrToken)
	refuses(t, "var x !", 6, api.ErrToken)
	refuses(t, "x !", 2, api.ErrToken)
	refuses(t, "} } 1", 4, api.ErrToken)
	refuses(t, "func f { use X }", 13, api.ErrToken)
	refuses(t, "func f { } \xff", 11, api.ErrToken)
	refuses(t, "var \u00e9 }", 4, api.ErrToken)
	refuses(t, nested("loop", 21)+"?", len(nested("loop", 21)), api.ErrToken)
	for _, s := range []string{" ", "x", "{", "!"} {
		refuses(t, strings.Repeat(s, 2001), 0, api.ErrLong)
		refuses(t, "var x"+strings.Repeat(s, 1996), 0, api.ErrLong)
	}
	parses(t, "var x"+strings.Repeat(" ", 1995), "{[{x 0}] [] []}")
	refuses(t, "var"+strings.Repeat(" ", 1997), 2000, api.ErrForm)
	refuses(t, strings.Repeat("{", 2000), 0, api.ErrForm)
}

// nested is a function of so many blocks, each within the one ahead of it.
func nested(word string, blocks int) string {
	return "func f {" + strings.Repeat(word+"{", blocks-1) + strings.Repeat("}", blocks)
}

// P601: a block within 19 others is one, within 20 none, and its place is its brace's.
func TestParseOfDeepTexts(t *testing.T) {
	for _, word := range []string{"loop", "if", "if{}else"} {
		place := func(n int) int { return len("func f {") + (len(word)+1)*(n-1) - 1 } // of the n-th block's brace
		for blocks := 1; blocks <= 20; blocks++ {
			made(t, nested(word, blocks))
		}
		for blocks := 21; blocks <= 30; blocks++ {
			if word != "if{}else" {
				refuses(t, nested(word, blocks), place(21), api.ErrDeep)
				continue
			}
			// The block of the if stands as deep as that of its else.
			refuses(t, nested(word, blocks), place(20)+len("if{"), api.ErrDeep)
		}
	}
}

// P601: all blocks count, of whichever statements.
func TestParseOfDeepMixtures(t *testing.T) {
	d := &dice{6}
	for range 200 {
		s := "func f {"
		for range 19 {
			s += []string{" loop {", " use x if {", " if { } else {", " loop { } if { use y"}[d.of(4)]
		}
		closed := strings.Repeat("}", 20)
		made(t, s+" use x "+closed)
		refuses(t, s+" loop { } "+closed, len(s)+6, api.ErrDeep)
		refuses(t, s+" if { } "+closed, len(s)+4, api.ErrDeep)
		refuses(t, s+" use x loop {", len(s)+12, api.ErrDeep)
	}
}

// P601: a block that has ended is not counted any more.
func TestParseOfManyBlocks(t *testing.T) {
	made(t, "func f {"+strings.Repeat(" loop { }", 200)+" }")
	made(t, "func f {"+strings.Repeat(" if { } else { }", 100)+" }")
	made(t, strings.Repeat("func f { loop { } } ", 90))
	made(t, nested("loop", 20)+nested("loop", 20)+nested("if", 20))
	s := nested("loop", 20) + nested("if", 20)
	refuses(t, s+nested("loop", 21), len(s)+len("func f {")+20*5-1, api.ErrDeep)
}

// P601: of a block too deep and a wrong token, the first one from the left.
func TestParseDeepOrWrong(t *testing.T) {
	deep := "func f {" + strings.Repeat("loop{", 19) // 20 blocks are open
	brace := len(deep) + 4
	refuses(t, deep+"loop{", brace, api.ErrDeep)
	refuses(t, deep+"loop{x", brace, api.ErrDeep)
	refuses(t, deep+"loop{{{", brace, api.ErrDeep)
	refuses(t, deep+"loop{}"+strings.Repeat("}", 30), brace, api.ErrDeep)
	refuses(t, deep+"loop", brace, api.ErrForm)
	refuses(t, deep+"loop x", brace+1, api.ErrForm)
	refuses(t, deep+"loop}", brace, api.ErrForm)
	refuses(t, deep+"{", brace-4, api.ErrForm)
	refuses(t, deep+"x loop{", brace-4, api.ErrForm)
	refuses(t, "x "+deep+"loop{", 0, api.ErrForm)
	refuses(t, "func f { use use "+strings.Repeat("loop {", 30), 13, api.ErrForm)
	refuses(t, "func f "+strings.Repeat("{", 30), 8, api.ErrForm)
}
