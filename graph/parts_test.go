package graph

import (
	"fmt"
	"math/bits"
	"runtime/debug"
	"slices"
	"strings"
	"testing"
)

// edgesOf are those of a text: two names each, an arrow between them.
func edgesOf(s string) (l [][2]string) {
	for _, x := range strings.Fields(s) {
		from, to, _ := strings.Cut(x, ">")
		l = append(l, [2]string{from, to})
	}
	return l
}

// parts holds what Parts answers of names and edges.
func parts(t *testing.T, n []string, edges [][2]string, want string) {
	t.Helper()
	if got := told(Parts(n, edges)); got != want {
		t.Errorf("Parts(%.200q, %.300q): %.300s; want %.300s", n, edges, got, want)
	}
}

// P801: names, parted.
func TestParts(t *testing.T) {
	for _, x := range []struct{ n, edges, want string }{
		{"", "", "[]"}, {"", "a>b b>a", "[]"}, {"a", "", "[[a]]"}, {"a", "a>a", "[[a]]"}, {"a b", "", "[[a] [b]]"}, {"a b", "a>b", "[[a] [b]]"}, {"a b", "b>a", "[[a] [b]]"}, {"a b", "a>b b>a", "[[a b]]"}, {"a b", "b>a a>b", "[[a b]]"},
		// Edges that are there twice, or lead nowhere else.
		{"a b", "a>b a>b", "[[a] [b]]"}, {"a b", "a>b a>b b>a a>a b>b", "[[a b]]"}, {"a b", "a>a b>b", "[[a] [b]]"},
		// Rings, and what leads to them, from them, from one to another.
		{"a b c", "a>b b>c c>a", "[[a b c]]"}, {"a b c", "a>c c>b b>a", "[[a b c]]"}, {"a b c", "a>b b>c", "[[a] [b] [c]]"}, {"a b c", "a>b b>a b>c", "[[a b] [c]]"}, {"a b c", "c>a a>b b>a", "[[a b] [c]]"}, {"a b c", "a>c c>a", "[[a c] [b]]"}, {"a b c", "a>b b>c c>b", "[[a] [b c]]"},
		{"a b c d", "a>d d>a b>c c>b", "[[a d] [b c]]"}, {"a b c d", "a>d d>a b>c c>b a>b d>c", "[[a d] [b c]]"}, {"a b c d", "a>d d>a b>c c>b b>a c>d", "[[a d] [b c]]"}, {"a b c d", "a>d d>a b>c c>b a>b c>d", "[[a b c d]]"}, {"a b c d", "a>c c>a b>d d>b c>d", "[[a c] [b d]]"},
		{"a b c d e", "a>b b>c c>d d>e e>c", "[[a] [b] [c d e]]"}, {"a b c d e", "e>d d>c c>b b>a a>c", "[[a b c] [d] [e]]"}, {"a b c d e", "a>b b>a b>c c>b d>e", "[[a b c] [d] [e]]"}, {"a b c", "a>b a>c b>c", "[[a] [b] [c]]"},
		// The sets by their first names, not by where ways begin.
		{"a b c d e f", "f>b b>f e>a a>e f>a e>d", "[[a e] [b f] [c] [d]]"}, {"a b c d e f", "a>e e>a e>f f>b b>f", "[[a e] [b f] [c] [d]]"},
		// Ways through others than these names do not count.
		{"a b", "a>x x>b b>a", "[[a] [b]]"}, {"a b", "a>x x>b b>y y>a", "[[a] [b]]"}, {"a c", "a>b b>c c>a a>c", "[[a c]]"}, {"a", "x>y y>x x>a a>x", "[[a]]"},
	} {
		n, l := strings.Fields(x.n), edgesOf(x.edges)
		parts(t, n, l, x.want)
		slices.Reverse(l)
		parts(t, n, l, x.want)
	}
}

// P801, W5: any names, by bytes; a set is one in whatever order it is handed in, and however often it has a name.
func TestPartsOfAnyNames(t *testing.T) {
	for _, x := range []struct {
		n     []string
		edges [][2]string
		want  [][]string
	}{
		{[]string{"b", "a"}, nil, [][]string{{"a"}, {"b"}}}, {[]string{"b", "a", "b"}, edgesOf("a>b b>a"), [][]string{{"a", "b"}}}, {[]string{"c", "c", "b", "a", "a"}, edgesOf("c>a a>c"), [][]string{{"a", "c"}, {"b"}}},
		{[]string{"a", "a0", "ab", "b"}, edgesOf("b>a a>b ab>a0 a0>ab"), [][]string{{"a", "b"}, {"a0", "ab"}}}, {[]string{"x10", "x2", "x", "x1"}, nil, [][]string{{"x"}, {"x1"}, {"x10"}, {"x2"}}},
		{[]string{"abcdefghijkl", "abcdefghijk"}, edgesOf("abcdefghijkl>abcdefghijk"), [][]string{{"abcdefghijk"}, {"abcdefghijkl"}}},
		// None of W1.
		{[]string{""}, [][2]string{{"", ""}}, [][]string{{""}}}, {[]string{"", "a"}, [][2]string{{"", "a"}, {"a", ""}}, [][]string{{"", "a"}}}, {[]string{"\xff", "\x00", "\u00e9", "z", "A"}, [][2]string{{"\xff", "A"}, {"A", "\xff"}}, [][]string{{"\x00"}, {"A", "\xff"}, {"z"}, {"\u00e9"}}},
		{[]string{"a b", "a", "b"}, [][2]string{{"a", "b"}, {"b", "a b"}, {"a b", "b"}}, [][]string{{"a"}, {"a b", "b"}}}, {[]string{"lock", "var"}, edgesOf("var>lock lock>var"), [][]string{{"lock", "var"}}},
	} {
		if got := Parts(x.n, x.edges); fmt.Sprintf("%q", got) != fmt.Sprintf("%q", x.want) {
			t.Errorf("Parts(%q, %q): %q; want %q", x.n, x.edges, got, x.want)
		}
	}
}

// leads tells of names whether edges lead from each to each, by a way of one edge or more that stays among them.
func leads(n []string, edges [][2]string) map[[2]string]bool {
	led := map[[2]string]bool{}
	for _, e := range edges {
		led[e] = slices.Contains(n, e[0]) && slices.Contains(n, e[1])
	}
	for _, over := range n {
		for _, from := range n {
			for _, to := range n {
				if led[[2]string{from, over}] && led[[2]string{over, to}] {
					led[[2]string{from, to}] = true
				}
			}
		}
	}
	return led
}

// modelParts are what Parts should answer of names in rising order.
func modelParts(n []string, edges [][2]string) (l [][]string) {
	led := leads(n, edges)
	for i, a := range n {
		with := func(b string) bool { return a == b || led[[2]string{a, b}] && led[[2]string{b, a}] }
		if slices.ContainsFunc(n[:i], with) {
			continue
		}
		l = append(l, slices.DeleteFunc(slices.Clone(n), func(b string) bool { return !with(b) }))
	}
	return l
}

// P801: all edges that there may be among some names and one that is none of them.
func TestPartsOfAllEdges(t *testing.T) {
	for many := range 4 {
		n := []string{"a", "b", "c"}[:many]
		var all [][2]string
		for _, a := range append(slices.Clone(n), "x") {
			for _, b := range append(slices.Clone(n), "x") {
				all = append(all, [2]string{a, b})
			}
		}
		for set := range uint(1) << len(all) {
			var edges [][2]string
			for rest := set; rest != 0; rest &= rest - 1 {
				edges = append(edges, all[bits.TrailingZeros(rest)])
			}
			parts(t, n, edges, told(modelParts(n, edges)))
		}
	}
}

// P801: more names, any edges.
func TestPartsOfAnyEdges(t *testing.T) {
	d := &dice{8}
	sizes := map[int]int{}
	for range 3000 {
		many := d.of(24)
		n, others := make([]string, many), []string{"", "a", "zz", "n99"}
		for i := range n {
			n[i] = fmt.Sprintf("n%02d", i)
		}
		var edges [][2]string
		for range d.of(2*many + 2) {
			e := [2]string{}
			for i := range e {
				if k := d.of(many + 1); k < many {
					e[i] = n[k]
				} else {
					e[i] = others[d.of(len(others))]
				}
			}
			edges = append(edges, e)
		}
		want := modelParts(n, edges)
		for _, part := range want {
			sizes[len(part)]++
		}
		mixed := slices.Clone(n)
		for i := range mixed {
			k := d.of(i + 1)
			mixed[i], mixed[k] = mixed[k], mixed[i]
		}
		parts(t, mixed, edges, told(want))
	}
	for size := 1; size < 10; size++ {
		if sizes[size] < 20 {
			t.Errorf("parts of %d were met %d times", size, sizes[size])
		}
	}
}

// P1: ways far longer than a small stack, and so many names that nobody could hold each against each.
func TestPartsOfManyNames(t *testing.T) {
	defer debug.SetMaxStack(debug.SetMaxStack(1 << 20))
	const many = 200_000
	n := make([]string, many)
	var up, down [][2]string
	var each [][]string
	for i := range n {
		n[i] = fmt.Sprintf("n%06d", i)
		each = append(each, n[i:i+1])
		if i > 0 {
			up = append(up, [2]string{n[i-1], n[i]})
			down = append(down, [2]string{n[i], n[i-1]})
		}
	}
	for _, x := range []struct {
		edges [][2]string
		want  [][]string
	}{
		{nil, each}, {up, each}, {down, each}, {slices.Concat(up, up), each}, {slices.Concat(up, down), [][]string{n}}, {append(slices.Clone(up), [2]string{n[many-1], n[0]}), [][]string{n}}, {append(slices.Clone(down), [2]string{n[0], n[many-1]}), [][]string{n}},
		{append(slices.Clone(up), [2]string{n[many-2], n[1]}), [][]string{n[:1], n[1 : many-1], n[many-1:]}},
	} {
		got := Parts(n, x.edges)
		if !slices.EqualFunc(got, x.want, slices.Equal) {
			t.Errorf("%d parts of %d names and %d edges; want %d others", len(got), many, len(x.edges), len(x.want))
		}
	}
}
