package graph

import (
	"fmt"
	"maps"
	"slices"
	"strings"
	"testing"

	"deadbolt/api"
	"deadbolt/parse"
)

// orders holds what Order answers of a text's program.
func orders(t *testing.T, s, want string) {
	t.Helper()
	if got := told(Order(made(t, s))); got != want {
		t.Errorf("Order(%.300q): %s; want %s", s, got, want)
	}
}

// P801: the parts of who calls whom, in order.
func TestOrder(t *testing.T) {
	for _, x := range [][2]string{
		{"func main { }", "[[main]]"}, {"func main { call main }", "[[main]]"}, {"func main { } func a { } func z { }", "[[a] [main] [z]]"},
		{"func main { call z } func z { }", "[[z] [main]]"}, {"func main { call a } func a { }", "[[a] [main]]"}, {"func main { } func a { call main }", "[[main] [a]]"},
		{"func main { call z call z } func z { call y if { call y } } func y { }", "[[y] [z] [main]]"}, {"func a { call b } func b { call c } func c { call main } func main { }", "[[main] [c] [b] [a]]"},
		// What became ready is taken at once, if its name is less, and not behind all that were ready ahead of it.
		{"func a { call b } func b { } func c { } func main { }", "[[b] [a] [c] [main]]"}, {"func b { call a } func a { } func c { } func main { }", "[[a] [b] [c] [main]]"}, {"func d { call a } func a { } func c { } func main { }", "[[a] [c] [d] [main]]"}, {"func a { call main } func b { call main } func c { } func main { } func z { }", "[[c] [main] [a] [b] [z]]"},
		{"func a { call y } func b { call x } func x { } func y { } func main { }", "[[main] [x] [b] [y] [a]]"}, {"func a { call b call z } func b { } func z { } func main { call a }", "[[b] [z] [a] [main]]"},
		// One that waits for several waits for the last one of them.
		{"func a { call b call c call main } func b { call main } func c { call b } func main { }", "[[main] [b] [c] [a]]"}, {"func a { call m0 call x call m0 } func m0 { } func n { } func x { } func main { }", "[[m0] [main] [n] [x] [a]]"},
		// Rings are taken as one, by their first names.
		{"func main { call a } func a { call main }", "[[a main]]"}, {"func main { } func a { call z } func b { } func z { call a }", "[[a z] [b] [main]]"}, {"func main { call z } func z { call main } func n { }", "[[main z] [n]]"}, {"func main { call z } func z { call main call n } func n { }", "[[n] [main z]]"},
		{"func main { } func b { call z } func z { call b call y } func c { call y } func y { call c }", "[[c y] [b z] [main]]"}, {"func main { } func c { call z } func z { call c call y } func b { call y } func y { call b call main }", "[[main] [b y] [c z]]"}, {"func a { call b call c } func b { call a } func c { call d } func d { call c call c call main } func main { call main }", "[[main] [c d] [a b]]"},
		{"func a { call c } func c { call a call main call e } func e { } func main { call e } func b { call a }", "[[e] [main] [a c] [b]]"},
		// Who is spawned may be behind.
		{"func main { spawn a } func a { spawn main }", "[[a] [main]]"}, {"func a { spawn z call main } func main { spawn a } func z { spawn a }", "[[main] [a] [z]]"},
		// Wherever the calls stand, and the declarations.
		{"func a { loop { if { } else { call z } } } func main { } func z { }", "[[main] [z] [a]]"}, {"func z { } func main { } func a { if { loop { call z } } }", "[[main] [z] [a]]"}, {"var a var b lock c func main { use a lock c }", "[[main]]"},
		{"func a { } func a0 { } func ab { } func b { } func main { } func a00 { call b }", "[[a] [a0] [ab] [b] [a00] [main]]"},
	} {
		orders(t, x[0], x[1])
	}
}

// calledIn tells of each function of a text's program whom a statement with such a word names, by the text's rows alone.
func calledIn(s, word string) map[string][]string {
	called := map[string][]string{}
	for _, f := range strings.Split(s, "func ")[1:] {
		rows := strings.Fields(f)
		called[rows[0]] = nil
		for i, row := range rows {
			if row == word {
				called[rows[0]] = append(called[rows[0]], rows[i+1])
			}
		}
	}
	return called
}

// setOf are names in rising order, none twice.
func setOf(l []string) []string { return slices.Compact(slices.Sorted(slices.Values(l))) }

// edgesBetween are the edges of who calls whom.
func edgesBetween(called map[string][]string) (l [][2]string) {
	for from, to := range called {
		for _, f := range to {
			l = append(l, [2]string{from, f})
		}
	}
	return l
}

// modelOrder is what Order should answer: as long as there are parts, the first one that may be taken.
func modelOrder(called map[string][]string) (l [][]string) {
	rest := modelParts(slices.Sorted(maps.Keys(called)), edgesBetween(called))
	for len(rest) > 0 {
		k := slices.IndexFunc(rest, func(part []string) bool {
			for _, f := range part {
				for _, g := range called[f] {
					if !slices.Contains(part, g) && !slices.ContainsFunc(l, func(ahead []string) bool { return slices.Contains(ahead, g) }) {
						return false
					}
				}
			}
			return true
		})
		l = append(l, rest[k])
		rest = slices.Delete(rest, k, k+1)
	}
	return l
}

// anyBlock is one that calls and spawns some of some functions.
func anyBlock(d *dice, l []string, deep, many int) string {
	s := "{"
	for range d.of(many + 1) {
		switch k := d.of(8); {
		case k < 4:
			s += " " + []string{"call ", "call ", "spawn "}[d.of(3)] + l[d.of(len(l))]
		case k < 5 || deep == 0:
			s += " " + []string{"use x", "set x", "lock m", "unlock m"}[d.of(4)]
		case k < 6:
			s += " loop " + anyBlock(d, l, deep-1, many)
		case k < 7:
			s += " if " + anyBlock(d, l, deep-1, many)
		default:
			s += " if " + anyBlock(d, l, deep-1, many) + " else " + anyBlock(d, l, deep-1, many)
		}
	}
	return s + " }"
}

// anyProgram is the text of one, most often short enough.
func anyProgram(d *dice) string {
	l := []string{"main", "a", "a0", "ab", "b", "c", "d", "l", "m0", "main0", "mai", "n", "o", "p", "q", "x1", "y", "z", "zz", "zzz"}
	l = l[:1+d.of(len(l))]
	deep, many := d.of(3), 1+d.of(4)
	s := "var x lock m"
	for i := range l {
		k := d.of(i + 1)
		l[i], l[k] = l[k], l[i]
	}
	for _, f := range l {
		s += " func " + f + " " + anyBlock(d, l, deep, many)
	}
	return s
}

// P801, P802: any programs, against what their texts say.
func TestAnyPrograms(t *testing.T) {
	d := &dice{9}
	tried, great := 0, 0
	for range 4000 {
		s := anyProgram(d)
		if len(s) > 2000 || strings.Count(s, "{")+strings.Count(s, "call")+strings.Count(s, "spawn")+strings.Count(s, " x")+strings.Count(s, " m") > 200 {
			continue
		}
		tried++
		p, calls, spawns := made(t, s), calledIn(s, "call"), calledIn(s, "spawn")
		n := slices.Sorted(maps.Keys(calls))
		led := leads(n, edgesBetween(calls))
		for _, f := range n {
			reach := slices.DeleteFunc(slices.Clone(n), func(g string) bool { return f != g && !led[[2]string{f, g}] })
			answers(t, p, f, told(setOf(calls[f])), told(setOf(spawns[f])), told(reach))
		}
		want := modelOrder(calls)
		orders(t, s, told(want))
		if len(want) > 5 && len(want) < len(n) {
			great++
		}
		inOrder(t, p)
	}
	if tried < 2000 || great < 200 {
		t.Errorf("%d programs were tried, %d with many parts", tried, great)
	}
}

// inOrder holds P802 of a program.
func inOrder(t *testing.T, p api.Prog) {
	t.Helper()
	ahead := map[string]int{} // the part's number, from 1 on
	for i, part := range Order(p) {
		for _, f := range part {
			if ahead[f] != 0 {
				t.Errorf("%s is twice in Order(%s)", f, parse.Text(p))
			}
			ahead[f] = i + 1
		}
		for _, f := range part {
			for _, g := range Calls(p, f) {
				if ahead[g] == 0 {
					t.Errorf("%s calls %s, which is behind it, in Order(%s)", f, g, parse.Text(p))
				}
			}
		}
	}
	for _, f := range p.Funcs {
		if ahead[f.Name] == 0 {
			t.Errorf("%s is not in Order(%s)", f.Name, parse.Text(p))
		}
	}
	if len(ahead) != len(p.Funcs) {
		t.Errorf("Order(%s) has %d functions", parse.Text(p), len(ahead))
	}
}

// P802: as many functions as a program may have: each calling the next one, the one ahead, all others.
func TestOrderOfTwentyFunctions(t *testing.T) {
	name := func(i int) string {
		if i == 7 {
			return "main"
		}
		return fmt.Sprintf("f%02d", i)
	}
	for _, x := range []struct {
		lead func(i int) []int
		want func(i int) int // the place of which it is the part, in Order
	}{
		{func(i int) []int { return []int{min(i+1, 19)} }, func(i int) int { return 19 - i }},
		{func(i int) []int { return []int{max(i-1, 0)} }, func(i int) int { return i }},
		{func(i int) []int { return []int{19, min(i+1, 19), min(i+2, 19), min(i+9, 19)} }, func(i int) int { return 19 - i }},
		{func(i int) []int { return []int{(i + 1) % 20} }, func(int) int { return 0 }},
		{func(i int) []int { return []int{0, i, 19, (i + 1) % 20} }, func(int) int { return 0 }},
	} {
		s := ""
		want := map[int][]string{}
		for i := range 20 {
			s += " func " + name(i) + " {"
			for _, k := range x.lead(i) {
				s += " call " + name(k)
			}
			s += " }"
			want[x.want(i)] = append(want[x.want(i)], name(i))
		}
		var l [][]string
		for k := range len(want) {
			l = append(l, setOf(want[k]))
		}
		orders(t, s, told(l))
		inOrder(t, made(t, s))
	}
}
