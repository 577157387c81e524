package names

import (
	"fmt"
	"slices"
	"strings"
	"sync"
	"testing"
	"unsafe"

	"deadbolt/api"
)

// someFiles are lists of files that make programs, and some that make none.
var someFiles = [][]api.File{
	nil,
	files("a", "func main { }"),
	files("c", "func f { if { use x use y use x } else { loop { set x } } }", "b", "var x lock m var y var z lock n", "a", "func main { call f lock m } func g { loop { if { } else { unlock m } } } func h { }"),
	files("b", "var x", "a", "func main { use x }"),
	files("b", "var x", "a", "func main { use y }"), files("b", "var x", "a", "func main { } lock x"), files("b", "var x }", "a", "func main { }"), files("b", "!", "a", ""), files("a", "", "a", ""), files("b", "var x", "a", ""),
	files("a", strings.Repeat("var x ", 21)), files("lock", "func main { }"), files("a", strings.Repeat(" ", 2001)),
}

// textOver is a text that lies in b itself, so that a test sees who keeps or changes it.
func textOver(b []byte) string { return unsafe.String(unsafe.SliceData(b), len(b)) }

// P2: a list that is handed in stays as it is, in its own order, its spare room too.
func TestJoinChangesNoList(t *testing.T) {
	for _, l := range someFiles {
		whole := append(slices.Clone(l), files("aa", "spare", "0", "room")...)
		was := fmt.Sprint(whole)
		Join(whole[:len(l)])
		if now := fmt.Sprint(whole); now != was {
			t.Errorf("Join changed %s: %s", was, now)
		}
	}
}

// P2: names and texts that are handed in stay as they are, and no program hangs on them.
func TestJoinKeepsNoTexts(t *testing.T) {
	for _, l := range someFiles {
		var bytes, was [][]byte
		var laid []api.File
		for _, f := range l {
			name, text := []byte(f.Name+"behind"), []byte(f.Text+" behind")
			laid = append(laid, api.File{Name: textOver(name[:len(f.Name)]), Text: textOver(text[:len(f.Text)])})
			bytes, was = append(bytes, name, text), append(was, slices.Clone(name), slices.Clone(text))
		}
		p, at, e := Join(laid)
		if fmt.Sprint(bytes) != fmt.Sprint(was) {
			t.Errorf("Join changed a text of %.200q", l)
		}
		for _, b := range bytes {
			for i := range b {
				b[i] = '#'
			}
		}
		if got, want := answer(p, at, e), answer(Join(l)); got != want {
			t.Errorf("the program of %.200q changed with the texts: %s; want %s", l, got, want)
		}
	}
}

// stmtLists are all the lists of statements of a program.
func stmtLists(p api.Prog) (lists [][]api.Stmt) {
	var walk func(l []api.Stmt)
	walk = func(l []api.Stmt) {
		lists = append(lists, l)
		for _, s := range l {
			walk(s.A)
			walk(s.B)
		}
	}
	for _, f := range p.Funcs {
		walk(f.Body)
	}
	return lists
}

// fill lays a value into a list's places from one on, its spare room too.
func fill[T any](l []T, from int, value T) {
	for i := from; i < cap(l); i++ {
		l[:cap(l)][i] = value
	}
}

// spoil changes all of a program's lists, their spare room too; or, if only spare, that alone.
func spoil(p api.Prog, onlySpare bool) {
	from := func(long int) int {
		if onlySpare {
			return long
		}
		return 0
	}
	for _, l := range stmtLists(p) {
		fill(l, from(len(l)), api.Stmt{Kind: 99, At: -1, Name: "spoilt"})
	}
	fill(p.Vars, from(len(p.Vars)), api.Decl{Name: "spoilt", At: -1})
	fill(p.Locks, from(len(p.Locks)), api.Decl{Name: "spoilt", At: -1})
	fill(p.Funcs, from(len(p.Funcs)), api.Func{Name: "spoilt", At: -1})
}

// P2, P3: each program is of lists of its own, and none of them is another one's spare room.
func TestJoinAnswersNewLists(t *testing.T) {
	for _, l := range someFiles {
		first, at, e := Join(l)
		want := answer(first, at, e)
		second, _, _ := Join(l)
		spoil(second, true)
		if got := answer(second, at, e); got != want {
			t.Errorf("spare room of one list is another one's: %s; it was %s", got, want)
		}
		spoil(first, false)
		if got := answer(second, at, e); got != want {
			t.Errorf("one program changed with the other: %s; it was %s", got, want)
		}
		spoil(second, false)
		if got := answer(Join(l)); got != want {
			t.Errorf("what is answered changed with a program: %s; it was %s", got, want)
		}
		var seen []*api.Stmt
		for _, block := range stmtLists(second) {
			for i := range block[:cap(block)] {
				if slices.Contains(seen, &block[:cap(block)][i]) {
					t.Fatalf("two lists share memory: %s", want)
				}
				seen = append(seen, &block[:cap(block)][i])
			}
		}
	}
}

// roomy is a list again with spare room behind it, and within it so of all lists; whole has all of it, the spare room too.
func roomy(l []api.Stmt, whole *[][]api.Stmt) []api.Stmt {
	var all []api.Stmt
	for _, s := range l {
		s.A, s.B = roomy(s.A, whole), roomy(s.B, whole)
		all = append(all, s)
	}
	all = append(all, api.Stmt{Kind: api.SUse, Name: "spare"}, api.Stmt{Kind: 42, Name: "room"})
	*whole = append(*whole, all)
	return all[:len(l)]
}

// P2, P5: a program that is handed in stays as it is, its spare room too, and that does not count.
func TestCheckChangesNoProgram(t *testing.T) {
	for _, s := range []string{
		"", "func main { }", "var x lock m func main { use x lock m if { set x } else { loop { call main } } }", "var x var x", "var x lock x", "func main { use y }", "func main { if { } else { loop { lock m } } }", "func f { }",
		"func main {" + strings.Repeat("loop{}", 201) + "}", many("lock", "m", "", 21), many("var", "m", "", 20) + many("func", "f", "{ }", 20),
	} {
		p := made(t, s)
		at, e := Check(p)
		var whole [][]api.Stmt
		for i := range p.Funcs {
			p.Funcs[i].Body = roomy(p.Funcs[i].Body, &whole)
		}
		vars := append(slices.Clone(p.Vars), api.Decl{Name: "main", At: 43})
		locks := append(slices.Clone(p.Locks), api.Decl{Name: "main", At: 44})
		funcs := append(slices.Clone(p.Funcs), api.Func{Name: "main", At: 45})
		p = api.Prog{Vars: vars[:len(p.Vars)], Locks: locks[:len(p.Locks)], Funcs: funcs[:len(p.Funcs)]}
		was := fmt.Sprint(vars, locks, funcs, whole)
		checks(t, p, at, e)
		checks(t, p, at, e)
		if now := fmt.Sprint(vars, locks, funcs, whole); now != was {
			t.Errorf("the program of %q was changed:\n%s; it was\n%s", s, now, was)
		}
	}
}

// P2, P7: names that are handed in are not kept: what they become later changes no answer.
func TestCheckKeepsNoNames(t *testing.T) {
	b := []byte("xy")
	name := textOver(b)
	p := api.Prog{Vars: []api.Decl{{Name: name}}, Funcs: []api.Func{{Name: "main", Body: []api.Stmt{{Kind: api.SUse, Name: "xy", At: 5}}}}}
	checks(t, p, 0, api.OK)
	copy(b, "yx")
	checks(t, p, 5, api.ErrName)
	p.Vars = append(p.Vars, api.Decl{Name: "xy", At: 7})
	checks(t, p, 0, api.OK)
	copy(b, "xy")
	checks(t, p, 7, api.ErrTwice)
}

// P3: what was asked ahead of it, or at the same time, changes no answer.
func TestSideBySide(t *testing.T) {
	var want []string
	for _, l := range someFiles {
		want = append(want, answer(Join(l)))
	}
	wrong := made(t, "var x func main { use y }")
	var all sync.WaitGroup
	for k := range 8 {
		all.Go(func() {
			for i := range 300 {
				n := (i*(2*k+1) + k) % len(someFiles)
				p, at, e := Join(someFiles[n])
				if answer(p, at, e) != want[n] {
					t.Errorf("%.60q: not as it was alone", someFiles[n])
				}
				if _, again := Check(p); again != api.OK && again != api.ErrMain {
					t.Errorf("Check of what Join answered: %v", again)
				}
				if at, e := Check(wrong); at != 18 || e != api.ErrName {
					t.Errorf("Check at the same time: %v at %d", e, at)
				}
			}
		})
	}
	all.Wait()
}
