package graph

import (
	"fmt"
	"slices"
	"strings"
	"sync"
	"testing"
	"unsafe"

	"deadbolt/api"
)

// someProgram has functions of all kinds: in rings, alone, spawned.
const someProgram = "var x lock m func main { use x call c call b spawn c if { call main lock m } else { loop { spawn d call d spawn main } } } func c { call b } func b { call c call e } func d { spawn d } func e { }"

// textOver is a text that lies in b itself, so that a test sees who keeps or changes it.
func textOver(b []byte) string { return unsafe.String(unsafe.SliceData(b), len(b)) }

// laid lays texts into bytes of their own; they are all kept in memory, so that a test can change them later.
type laid struct{ memory [][]byte }

func (m *laid) lay(s string) string {
	b := []byte(s + "behind")
	m.memory = append(m.memory, b)
	return textOver(b[:len(s)])
}

func (m *laid) spoil() {
	for _, b := range m.memory {
		for i := range b {
			b[i] = '#'
		}
	}
}

// layBlock lays all names of a block, and of all within it.
func (m *laid) layBlock(l []api.Stmt) {
	for i := range l {
		l[i].Name = m.lay(l[i].Name)
		m.layBlock(l[i].A)
		m.layBlock(l[i].B)
	}
}

// faces are all of a program's, each asked of a function.
func faces() []func(p api.Prog, f string) [][]string {
	return []func(p api.Prog, f string) [][]string{
		func(p api.Prog, f string) [][]string { return [][]string{Calls(p, f)} },
		func(p api.Prog, f string) [][]string { return [][]string{Spawns(p, f)} },
		func(p api.Prog, f string) [][]string { return [][]string{Reach(p, f)} },
		func(p api.Prog, f string) [][]string { return Order(p) },
		func(p api.Prog, f string) [][]string {
			return Parts([]string{"e", f, "d", "c", f, "b"}, [][2]string{{f, "b"}, {"b", "c"}, {"c", f}, {"x", "d"}, {"e", "x"}, {"d", "d"}})
		},
	}
}

// P2: no name that is answered lies in what was handed in.
func TestNamesAreNotKept(t *testing.T) {
	for i, face := range faces() {
		for _, f := range []string{"main", "b", "d", "e"} {
			want := told(face(made(t, someProgram), f))
			p, m := made(t, someProgram), &laid{}
			for i := range p.Funcs {
				p.Funcs[i].Name = m.lay(p.Funcs[i].Name)
				m.layBlock(p.Funcs[i].Body)
			}
			got := face(p, m.lay(f))
			was := told(m.memory)
			if told(got) != want || told(m.memory) != was {
				t.Errorf("face %d of %s: %s; want %s", i, f, told(got), want)
			}
			m.spoil()
			if told(got) != want {
				t.Errorf("face %d of %s changed with the names that were handed in: %s; it was %s", i, f, told(got), want)
			}
		}
	}
}

// P2: so with those of Parts.
func TestPartsKeepsNoNames(t *testing.T) {
	m := &laid{}
	n := []string{m.lay("b"), m.lay("a"), m.lay("c"), m.lay("a")}
	edges := [][2]string{{m.lay("a"), m.lay("c")}, {m.lay("c"), m.lay("a")}, {m.lay("x"), m.lay("b")}}
	was := told(m.memory)
	got := Parts(n, edges)
	if told(m.memory) != was {
		t.Error("Parts changed a name")
	}
	m.spoil()
	if told(got) != "[[a c] [b]]" {
		t.Errorf("Parts changed with the names that were handed in: %q", got)
	}
}

// P2: lists of Parts stay as they are, their spare room too, and that does not count.
func TestPartsChangesNoLists(t *testing.T) {
	n := []string{"c", "a", "b", "a", "d", "e"}
	edges := [][2]string{{"c", "a"}, {"b", "b"}, {"a", "c"}, {"a", "b"}, {"b", "a"}, {"d", "a"}}
	for many := range len(n) + 1 {
		for edged := range len(edges) + 1 {
			wholeN, wholeEdges := slices.Clone(n), slices.Clone(edges)
			got := told(Parts(wholeN[:many], wholeEdges[:edged]))
			if !slices.Equal(wholeN, n) || !slices.Equal(wholeEdges, edges) {
				t.Errorf("Parts changed what was handed in: %q, %q", wholeN, wholeEdges)
			}
			if want := told(modelParts(setOf(n[:many]), edges[:edged])); got != want {
				t.Errorf("Parts(%q, %q): %s; want %s", n[:many], edges[:edged], got, want)
			}
		}
	}
}

// P2: no list and an empty one are the same.
func TestEmptyLists(t *testing.T) {
	parts(t, nil, nil, "[]")
	parts(t, []string{}, [][2]string{}, "[]")
	parts(t, []string{"a"}, [][2]string{}, "[[a]]")
	p := api.Prog{Vars: []api.Decl{}, Locks: []api.Decl{}, Funcs: []api.Func{}}
	answers(t, p, "main", "[]", "[]", "[]")
	if got := told(Order(p)); got != "[]" {
		t.Errorf("Order of no functions: %s", got)
	}
	p.Funcs = append(p.Funcs, api.Func{Name: "main", Body: []api.Stmt{}})
	answers(t, p, "main", "[]", "[]", "[main]")
}

// roomy is a block again with spare room behind it, and within it so of all blocks; whole has all of it, the spare room too.
func roomy(l []api.Stmt, whole *[][]api.Stmt) []api.Stmt {
	var all []api.Stmt
	for _, s := range l {
		s.A, s.B = roomy(s.A, whole), roomy(s.B, whole)
		all = append(all, s)
	}
	all = append(all, api.Stmt{Kind: api.SCall, Name: "e"}, api.Stmt{Kind: api.SSpawn, Name: "b"})
	*whole = append(*whole, all)
	return all[:len(l)]
}

// P2: a program stays as it is, its spare room too, and that does not count.
func TestProgramsAreNotChanged(t *testing.T) {
	for i, face := range faces() {
		for _, f := range []string{"main", "b", "d", "e", "none"} {
			p := made(t, someProgram)
			want := told(face(p, f))
			var whole [][]api.Stmt
			for i := range p.Funcs {
				p.Funcs[i].Body = roomy(p.Funcs[i].Body, &whole)
			}
			funcs := append(slices.Clone(p.Funcs), api.Func{Name: "spare", At: 45, Body: p.Funcs[0].Body})
			p.Funcs = funcs[:len(p.Funcs)]
			was := fmt.Sprint(p, funcs, whole)
			if got := told(face(p, f)); got != want {
				t.Errorf("face %d of %s with spare room: %s; want %s", i, f, got, want)
			}
			if now := fmt.Sprint(p, funcs, whole); now != was {
				t.Errorf("face %d of %s changed the program:\n%s; it was\n%s", i, f, now, was)
			}
		}
	}
}

// fill lays a name into a list's places from one on, its spare room too.
func fill(l []string, from int) {
	for i := from; i < cap(l); i++ {
		l[:cap(l)][i] = "spoilt"
	}
}

// P2, P3: each answer is of lists of its own, and none of them is another one's spare room.
func TestAnswersAreNewLists(t *testing.T) {
	p := made(t, someProgram)
	for i, face := range faces() {
		first, second := face(p, "main"), face(p, "main")
		want := told(first)
		for _, l := range first {
			fill(l, len(l))
		}
		if told(first) != want {
			t.Errorf("face %d: spare room of one list is another one's: %q", i, first)
		}
		var seen []*string
		for _, l := range first {
			for k := range l[:cap(l)] {
				if slices.Contains(seen, &l[:cap(l)][k]) {
					t.Fatalf("face %d: two lists share memory: %q", i, first)
				}
				seen = append(seen, &l[:cap(l)][k])
			}
		}
		for _, l := range first[:cap(first)] {
			fill(l, 0)
		}
		clear(first[:cap(first)])
		if told(second) != want || told(face(p, "main")) != want {
			t.Errorf("face %d changed with another answer of it: %q, %q", i, second, face(p, "main"))
		}
	}
}

// P3: what was asked ahead of it, or at the same time, changes no answer.
func TestSideBySide(t *testing.T) {
	texts := []string{someProgram, "func main { }", "func main { call a } func a { call main spawn a }", strings.ReplaceAll(someProgram, "call", "spawn"), strings.ReplaceAll(someProgram, "spawn", "call")}
	progs := []api.Prog{{}}
	for _, s := range texts {
		progs = append(progs, made(t, s))
	}
	var want []string
	for i := range progs {
		want = append(want, allOf(progs[i], "main", "a", "b", "e"))
	}
	var all sync.WaitGroup
	for k := range 8 {
		all.Go(func() {
			for i := range 300 {
				n := (i*(2*k+1) + k) % len(progs)
				if got := allOf(progs[n], "main", "a", "b", "e"); got != want[n] {
					t.Errorf("program %d: not as it was alone: %s", n, got)
				}
			}
		})
	}
	all.Wait()
}
