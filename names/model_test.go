package names

import (
	"fmt"
	"maps"
	"regexp"
	"slices"
	"sort"
	"strings"
	"testing"

	"deadbolt/api"
	"deadbolt/parse"
)

// wordForm are the rows and braces of a text.
var wordForm = regexp.MustCompile(`[a-z0-9]+|[{}]`)

// meeting is a name of a text, behind which word, and that word's place.
type meeting struct {
	word, name string
	at         int
}

// meetings are the names of a program's text: those that are declared, in order of their kinds, those that statements have; and how many statements there are.
func meetings(s string) (kinds [3][]meeting, named []meeting, stmts int) {
	rows, open := wordForm.FindAllStringIndex(s, -1), 0
	for i, at := range rows {
		row := s[at[0]:at[1]]
		open += strings.Count(row, "{") - strings.Count(row, "}")
		switch {
		case row == "if", row == "loop":
			stmts++
		case row == "else" || !slices.Contains(words, row):
		case open == 0:
			k := slices.Index([]string{"var", "lock", "func"}, row)
			kinds[k] = append(kinds[k], meeting{row, s[rows[i+1][0]:rows[i+1][1]], at[0]})
		default:
			stmts++
			named = append(named, meeting{row, s[rows[i+1][0]:rows[i+1][1]], at[0]})
		}
	}
	return kinds, named, stmts
}

// modelCheck is what Check should answer of a text's program, by what stands in the text alone.
func modelCheck(s string) (at int, e api.Errno) {
	kinds, named, stmts := meetings(s)
	for _, l := range kinds {
		if len(l) > 20 || stmts > 200 {
			return 0, api.ErrLong
		}
	}
	all := slices.Concat(kinds[0], kinds[1], kinds[2])
	for i, x := range all {
		for _, y := range all[:i] {
			if x.name == y.name {
				return x.at, api.ErrTwice
			}
		}
	}
	as := map[string]string{"use": "var", "set": "var", "lock": "lock", "unlock": "lock", "call": "func", "spawn": "func"}
	has := func(word, name string) bool {
		return slices.ContainsFunc(all, func(x meeting) bool { return x.word == word && x.name == name })
	}
	for _, x := range named {
		if !has(as[x.word], x.name) {
			return x.at, api.ErrName
		}
	}
	if !has("func", "main") {
		return 0, api.ErrMain
	}
	return 0, api.OK
}

// P701: all rows of some declarations.
func TestAllShortPrograms(t *testing.T) {
	parts := []string{
		"var x", "var main", "lock x", "lock y", "func x { }", "func main { }", "func main { use x }", "func main { lock y call main }", "func x { set y }", "func y { if { call x } else { spawn main } unlock x }",
		"func f { loop { use x if { } else { lock x } } }", "func x { call x }",
	}
	met := map[api.Errno]int{}
	var try func(s string, more int)
	try = func(s string, more int) {
		at, e := modelCheck(s)
		met[e]++
		checksText(t, s, at, e)
		for _, x := range parts {
			if more > 0 {
				try(s+x+" ", more-1)
			}
		}
	}
	try("", 4)
	if len(met) != 4 || slices.Min(slices.Collect(maps.Values(met))) < 40 {
		t.Errorf("too few of one kind were tried: %v", met)
	}
}

// anyName is a name, most often the first of its kind.
func anyName(d *dice, l ...string) string {
	if d.of(25) == 0 {
		return []string{"x", "y", "m", "n", "f", "g", "main", "other"}[d.of(8)]
	}
	return l[d.of(len(l))]
}

// anyBlock is one of statements that most often name what may be named.
func anyBlock(d *dice, deep, many int) string {
	s := "{"
	for range d.of(many + 1) {
		switch k := d.of(12); {
		case k < 4:
			s += " " + []string{"use ", "set "}[d.of(2)] + anyName(d, "x", "y")
		case k < 7:
			s += " " + []string{"lock ", "unlock "}[d.of(2)] + anyName(d, "m", "n")
		case k < 9 || deep <= 0:
			s += " " + []string{"call ", "spawn "}[d.of(2)] + anyName(d, "f", "g", "main")
		case k < 10:
			s += " loop " + anyBlock(d, deep-1, many)
		case k < 11:
			s += " if " + anyBlock(d, deep-1, many)
		default:
			s += " if " + anyBlock(d, deep-1, many) + " else " + anyBlock(d, deep-1, many)
		}
	}
	return s + " }"
}

// anyParts are the declarations of a program, in any order, seldom one lacking, twice or renamed.
func anyParts(d *dice) []string {
	var l []string
	for _, x := range [][2]string{{"var ", "x"}, {"var ", "y"}, {"lock ", "m"}, {"lock ", "n"}, {"func ", "f"}, {"func ", "g"}, {"func ", "main"}} {
		many := 1
		switch d.of(30) {
		case 0:
			many = 0
		case 1:
			many = 2
		case 2:
			x[1] = anyName(d, "x", "m", "f", "v")
		}
		for range many {
			s := x[0] + x[1]
			if x[0] == "func " {
				s += " " + anyBlock(d, d.of(4), d.of(5))
			}
			l = append(l, s)
		}
	}
	for i := range l {
		k := d.of(i + 1)
		l[i], l[k] = l[k], l[i]
	}
	return l
}

// P701: programs of all kinds.
func TestAnyPrograms(t *testing.T) {
	d := &dice{3}
	met := map[api.Errno]int{}
	for range 10000 {
		s := strings.Join(anyParts(d), "\n")
		if d.of(40) == 0 {
			s += many("\nfunc", "h", "{ }", d.of(40))
		}
		if d.of(40) == 0 {
			s += "\nfunc h0 {" + strings.Repeat("if{}loop{}", 80+d.of(50)) + "}"
		}
		if len(s) > 2000 {
			continue
		}
		at, e := modelCheck(s)
		met[e]++
		checksText(t, s, at, e)
	}
	if len(met) != 5 || slices.Min(slices.Collect(maps.Values(met))) < 50 {
		t.Errorf("too few of one kind were tried: %v", met)
	}
}

var fileForm = regexp.MustCompile(`\A[a-z][a-z0-9]{0,11}\z`)

// modelSound tells whether files are a sound set.
func modelSound(l []api.File) bool {
	seen := map[string]int{}
	for _, f := range l {
		seen[f.Name]++
		if !fileForm.MatchString(f.Name) || slices.Contains(words, f.Name) || len(f.Text) > 2000 || seen[f.Name] > 1 {
			return false
		}
	}
	return len(l) <= 8
}

// places are all the places of a program, as its parts stand in it.
func places(p api.Prog) []int {
	var l []int
	for _, x := range slices.Concat(p.Vars, p.Locks) {
		l = append(l, x.At)
	}
	var walk func(block []api.Stmt)
	walk = func(block []api.Stmt) {
		for _, s := range block {
			l = append(l, s.At)
			walk(s.A)
			walk(s.B)
		}
	}
	for _, f := range p.Funcs {
		l = append(l, f.At)
		walk(f.Body)
	}
	return l
}

// asOne holds what Join answers of files against the program of all their texts laid behind one another.
func asOne(t *testing.T, l []api.File) api.Errno {
	t.Helper()
	if !modelSound(l) {
		refuses(t, l, 0, api.ErrArg)
		return api.ErrArg
	}
	sorted := slices.Clone(l)
	sort.Slice(sorted, func(i, k int) bool { return sorted[i].Name < sorted[k].Name })
	one, begins := "", []int{}
	for k, f := range sorted {
		if _, at, e := parse.Parse(f.Text); e != api.OK {
			refuses(t, l, 10000*k+at, e)
			return e
		}
		begins = append(begins, len(one))
		one += f.Text + "\n"
	}
	far := func(at int) int { // where a place of all the texts is
		k, is := slices.BinarySearch(begins, at)
		if !is {
			k--
		}
		return 10000*k + at - begins[k]
	}
	if at, e := modelCheck(one); e != api.OK {
		if e == api.ErrTwice || e == api.ErrName {
			at = far(at)
		}
		refuses(t, l, at, e)
		return e
	}
	p, at, e := Join(l)
	q := made(t, one)
	want := places(q)
	for i := range want {
		want[i] = far(want[i])
	}
	if at != 0 || e != api.OK || !parse.Same(p, q) || fmt.Sprint(places(p)) != fmt.Sprint(want) {
		t.Errorf("Join(%q):\n%v, %v at %d; want\n%v at %v", l, p, e, at, q, want)
	}
	return e
}

// anyFiles are some, most often a sound set whose texts are a program's parts.
func anyFiles(d *dice) []api.File {
	names := []string{"a", "b", "b0", "b00", "ba", "c", "main", "abcdefghijkl", "z9", "x"}
	var l []api.File
	for range d.of(9) {
		i := d.of(len(names))
		l = append(l, api.File{Name: names[i]})
		names = slices.Delete(names, i, i+1)
	}
	for _, s := range anyParts(d) {
		if len(l) > 0 {
			l[d.of(len(l))].Text += s + []string{" ", "\n", " \t "}[d.of(3)]
		}
	}
	if len(l) == 0 || d.of(4) > 0 {
		return l
	}
	f := &l[d.of(len(l))]
	switch d.of(6) {
	case 0:
		f.Name = []string{"", "lock", "1", "a", "B", "abcdefghijklm"}[d.of(6)]
	case 1:
		f.Text = f.Text[:d.of(len(f.Text)+1)]
	case 2:
		at := d.of(len(f.Text) + 1)
		f.Text = f.Text[:at] + []string{"!", "{", "}", "else", " x ", "\xff"}[d.of(6)] + f.Text[at:]
	case 3:
		f.Text += strings.Repeat(" ", 1990-min(1990, len(f.Text))+d.of(20))
	case 4:
		f.Text += " func deep {" + strings.Repeat("loop{", d.of(40))
	default:
		l = append(l, l[d.of(len(l))])
	}
	return l
}

// P1, P701: files of all kinds.
func TestAnyFiles(t *testing.T) {
	d := &dice{4}
	met := map[api.Errno]int{}
	for range 10000 {
		l := anyFiles(d)
		if len(l) > 0 && d.of(50) == 0 {
			l[0].Text += many(" func", "h", "{ }", d.of(40))
		}
		total := 0
		for _, f := range l {
			total += len(f.Text) + 1
		}
		if total > 2000 && modelSound(l) {
			continue // their texts can't be read as one
		}
		met[asOne(t, l)]++
	}
	for _, e := range []api.Errno{api.OK, api.ErrArg, api.ErrToken, api.ErrForm, api.ErrLong, api.ErrTwice, api.ErrName, api.ErrMain} {
		if met[e] < 20 {
			t.Errorf("%v was met %d times", e, met[e])
		}
	}
}

// P1: any names, any texts.
func TestAnyBytes(t *testing.T) {
	d := &dice{6}
	row := func(long int, signs string) string {
		b := make([]byte, d.of(long))
		for i := range b {
			b[i] = signs[d.of(len(signs))]
		}
		return string(b)
	}
	for range 5000 {
		var l []api.File
		for range d.of(4) {
			l = append(l, api.File{Name: row(4, "abbc1\xff\x00"), Text: row(20, "var func{}mainx \n!\x80")})
		}
		asOne(t, l)
	}
}
