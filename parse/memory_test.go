package parse

import (
	"fmt"
	"slices"
	"strings"
	"sync"
	"testing"
	"unsafe"

	"deadbolt/api"
)

// someTexts are programs, and some that are none.
var someTexts = []string{
	"", "var x", "lock m lock n", "func f { }", "var x\nlock m func main { use x set y lock m unlock m if { use x use y use z } else { set y loop { } } loop { call main spawn f if { } } }\nfunc f { } var y",
	"var x }", "func f {", "func f { use x ! }", "func f {" + strings.Repeat("loop {", 20), strings.Repeat("x", 2001),
}

// textOver is a text that lies in b itself, so that a test sees who keeps or changes it.
func textOver(b []byte) string { return unsafe.String(unsafe.SliceData(b), len(b)) }

// P2: a text that is handed in, and what lies behind it, stays as it is, and the program does not hang on it.
func TestTextIsNotKeptOrChanged(t *testing.T) {
	for _, s := range someTexts {
		whole := []byte(s + "spare room")
		p, at, e := Parse(textOver(whole[:len(s)]))
		if string(whole) != s+"spare room" {
			t.Errorf("Parse(%.60q) changed it: %.80q", s, whole)
		}
		for i := range whole {
			whole[i] = '#'
		}
		if got, want := told(p, at, e), told(Parse(s)); got != want {
			t.Errorf("the program of %.60q changed with the text: %.300s", s, got)
		}
	}
}

// stmtLists are all the lists of statements of a program.
func stmtLists(p api.Prog) (lists [][]api.Stmt) {
	var walk func(l []api.Stmt)
	walk = func(l []api.Stmt) {
		lists = append(lists, l)
		for _, s := range l {
			walk(s.A)
			walk(s.B)
		}
	}
	for _, f := range p.Funcs {
		walk(f.Body)
	}
	return lists
}

// spoil changes all of a program's lists, their spare room too.
func spoil(p api.Prog) {
	lists := stmtLists(p)
	for _, l := range lists {
		l = l[:cap(l)]
		for i := range l {
			l[i] = api.Stmt{Kind: 99, At: -1, Name: "spoilt"}
		}
	}
	for _, l := range [][]api.Decl{p.Vars[:cap(p.Vars)], p.Locks[:cap(p.Locks)]} {
		for i := range l {
			l[i] = api.Decl{Name: "spoilt", At: -1}
		}
	}
	l := p.Funcs[:cap(p.Funcs)]
	for i := range l {
		l[i] = api.Func{Name: "spoilt", At: -1}
	}
}

// P2, P3: each program is of lists of its own, their spare room too.
func TestProgramsAreNewLists(t *testing.T) {
	for _, s := range someTexts {
		first, at, e := Parse(s)
		want := told(first, at, e)
		second, _, _ := Parse(s)
		spoil(first)
		if got := told(second, at, e); got != want {
			t.Errorf("Parse(%q): one program changed with the other: %s", s, got)
		}
		spoil(second)
		if got := told(Parse(s)); got != want {
			t.Errorf("Parse(%q): what is answered changed with a program: %s", s, got)
		}
	}
}

// P2: no two lists of one program share memory, their spare room neither.
func TestListsOfAProgramAreApart(t *testing.T) {
	for _, s := range someTexts {
		p, at, e := Parse(s)
		want := told(p, at, e)
		for _, l := range stmtLists(p) {
			for i := len(l); i < cap(l); i++ {
				l[:cap(l)][i] = api.Stmt{Kind: 99}
			}
		}
		for _, l := range [][]api.Decl{p.Vars, p.Locks} {
			for i := len(l); i < cap(l); i++ {
				l[:cap(l)][i] = api.Decl{At: 99}
			}
		}
		if got := told(p, at, e); got != want {
			t.Errorf("Parse(%q): spare room of one list is another one's: %s", s, got)
		}
		var seen []*api.Stmt
		for _, l := range stmtLists(p) {
			l = l[:cap(l)]
			for i := range l {
				if slices.Contains(seen, &l[i]) {
					t.Fatalf("Parse(%q): two lists share memory", s)
				}
				seen = append(seen, &l[i])
			}
		}
	}
}

// roomy is a list again with spare room behind it, and within it so of all lists; whole tells all of it, the spare room too.
func roomy(l []api.Stmt, whole *[][]api.Stmt) []api.Stmt {
	var all []api.Stmt
	for _, s := range l {
		s.A, s.B = roomy(s.A, whole), roomy(s.B, whole)
		all = append(all, s)
	}
	all = append(all, api.Stmt{Kind: 41, Name: "spare"}, api.Stmt{Kind: 42, Name: "room"})
	*whole = append(*whole, all)
	return all[:len(l)]
}

// P2: a program that is handed in stays as it is, its spare room too.
func TestProgramsAreNotChanged(t *testing.T) {
	for _, s := range someTexts {
		p, _, _ := Parse(s)
		var whole [][]api.Stmt
		for i := range p.Funcs {
			p.Funcs[i].Body = roomy(p.Funcs[i].Body, &whole)
		}
		vars := append(slices.Clone(p.Vars), api.Decl{Name: "spare", At: 43})
		locks := append(slices.Clone(p.Locks), api.Decl{Name: "spare", At: 44})
		funcs := append(slices.Clone(p.Funcs), api.Func{Name: "spare", At: 45})
		p = api.Prog{Vars: vars[:len(p.Vars)], Locks: locks[:len(p.Locks)], Funcs: funcs[:len(p.Funcs)]}
		was := fmt.Sprint(vars, locks, funcs, whole)
		Text(p)
		Same(p, p)
		if q, _, _ := Parse(s); !Same(p, q) || !Same(q, p) || Text(p) != Text(q) {
			t.Errorf("spare room counts in %q", s)
		}
		for _, f := range funcs {
			Body(f)
		}
		if now := fmt.Sprint(vars, locks, funcs, whole); now != was {
			t.Errorf("the program of %q was changed:\n%s; it was\n%s", s, now, was)
		}
	}
}

// P2: what is written does not hang on the names that were handed in.
func TestNamesAreNotKept(t *testing.T) {
	b := []byte("xyz")
	name := textOver(b)
	p := api.Prog{Vars: []api.Decl{{Name: name}}, Locks: []api.Decl{{Name: name}}, Funcs: []api.Func{{Name: name, Body: []api.Stmt{{Kind: api.SUse, Name: name}}}}}
	text, body := Text(p), Body(p.Funcs[0])
	copy(b, "###")
	if text != "var xyz\nlock xyz\nfunc xyz { use xyz }\n" || body != "{ use xyz }" {
		t.Errorf("a text changed with a name: %q, %q", text, body)
	}
}

// P3: what was asked ahead of it, or at the same time, changes no answer.
func TestSideBySide(t *testing.T) {
	var want, texts []string
	for _, s := range someTexts {
		p, at, e := Parse(s)
		want = append(want, told(p, at, e))
		texts = append(texts, Text(p))
	}
	p := made(t, someTexts[4])
	var all sync.WaitGroup
	for k := range 8 {
		all.Go(func() {
			for i := range 200 {
				n := (i*(2*k+1) + k) % len(someTexts)
				q, at, e := Parse(someTexts[n])
				if told(q, at, e) != want[n] || Text(q) != texts[n] || Same(p, q) != (n == 4) {
					t.Errorf("%.60q: not as it was alone", someTexts[n])
				}
			}
		})
	}
	all.Wait()
}
