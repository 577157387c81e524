package eff

import (
	"fmt"
	"math"
	"strings"
	"sync"
	"testing"
	"unsafe"
)

// textOver is a text that lies in b itself, so that a test sees who keeps or changes it.
func textOver(b []byte) string { return unsafe.String(unsafe.SliceData(b), len(b)) }

// faces are all that answer an effect, each asked of two.
func faces() []func(a, b string) string {
	return []func(a, b string) string{
		Then, Least, Most,
		func(a, b string) string { return Put(a, len(a)/2, '2') },
		func(a, b string) string { return Put(a, 0, a[0]) },
		func(a, b string) string { return Put(a, -1, '2') },
		func(a, b string) string { return Put(a, len(a), '2') },
	}
}

// P2: what is handed in stays as it is, what lies behind it too, and nothing that is answered lies in it.
func TestNothingIsChangedOrKept(t *testing.T) {
	for i, face := range faces() {
		for _, x := range [][2]string{{"0", "1"}, {"2", "1"}, {"1", "2"}, {"012", "111"}, {"111", "012"}, {"0120", "0120"}, {"00000000000000000000", "11111111111111111111"}, {"20120120120120120120", "22222222222222222222"}} {
			want := face(strings.Clone(x[0]), strings.Clone(x[1]))
			a, b := []byte(x[0]+"behind"), []byte(x[1]+"behind")
			got := face(textOver(a[:len(x[0])]), textOver(b[:len(x[1])]))
			if string(a) != x[0]+"behind" || string(b) != x[1]+"behind" {
				t.Errorf("face %d of %q changed what was handed in: %q, %q", i, x, a, b)
			}
			clear(a)
			clear(b)
			if got != want {
				t.Errorf("face %d of %q: %q; want %q", i, x, got, want)
			}
		}
	}
}

// P2: one text may be handed in twice.
func TestOneTextTwice(t *testing.T) {
	b := []byte("012")
	s := textOver(b)
	l := []string{Then(s, s), Least(s, s), Most(s, s)}
	if string(b) != "012" {
		t.Errorf("changed to %q", b)
	}
	clear(b)
	for i, got := range l {
		if got != "012" {
			t.Errorf("face %d: %q", i, got)
		}
	}
}

// P1, P8: texts that are no effects, or not of one length, and any numbers.
func TestAnythingEnds(t *testing.T) {
	d := &dice{5}
	texts := []string{"", "0", "1", "2", "012", "0120", "3", "/", "a", "\x00", "\xff", "1\xff1", "\u00e9", "1\u00e9", "\u20ac", "\U0001f512", "\xf0\x9f\x94", "\xed\xa0\x80", "111111111111111111111", strings.Repeat("012", 1000), strings.Repeat("\xff", 999)}
	for range 300 {
		b := make([]byte, d.of(40))
		for i := range b {
			b[i] = byte(d.of(256))
		}
		texts = append(texts, string(b))
	}
	numbers := []int{0, 1, 2, 3, 19, 20, 21, 256, 2999, 3000, -1, -2, math.MinInt, math.MaxInt, math.MinInt32, math.MaxInt32}
	for _, a := range texts {
		for _, b := range texts {
			if first, second := fmt.Sprint(Then(a, b), Least(a, b), Most(a, b)), fmt.Sprint(Then(a, b), Least(a, b), Most(a, b)); first != second { // P3
				t.Errorf("of %q, %q: not the same twice", a, b)
			}
		}
		for _, at := range numbers {
			c := byte(d.of(256))
			if first, second := fmt.Sprint(Put(a, at, c), Has(a, at), All(at, c)), fmt.Sprint(Put(a, at, c), Has(a, at), All(at, c)); first != second {
				t.Errorf("of %q, %d, %q: not the same twice", a, at, c)
			}
		}
	}
}

// P1: great texts, in less time than a loop in a loop would take.
func TestGreatTextsEnd(t *testing.T) {
	a, b := strings.Repeat("012", 1<<20), strings.Repeat("\xff1\u00e9", 3<<18)
	for _, x := range [][2]string{{a, a}, {a, b}, {b, a}, {b, b}, {a, ""}, {"", a}} {
		Then(x[0], x[1])
		Least(x[0], x[1])
		Most(x[0], x[1])
		for _, at := range []int{0, 1 << 20, len(x[0]) - 1, len(x[0]), math.MaxInt} {
			Put(x[0], at, '2')
			Has(x[0], at)
		}
	}
}

// P3: what was asked ahead of it, or at the same time, changes no answer.
func TestSideBySide(t *testing.T) {
	l := effects(3)
	ask := func(n int) string {
		a, b := l[n%len(l)], l[n/len(l)%len(l)]
		return fmt.Sprint(Then(a, b), Least(a, b), Most(a, b), Put(a, n%5-1, '2'), Has(b, n%5-1), All(n%21, '1'))
	}
	var want []string
	for n := range len(l) * len(l) {
		want = append(want, ask(n))
	}
	var all sync.WaitGroup
	for k := range 8 {
		all.Go(func() {
			for i := range 2000 {
				if n := (i*(2*k+1) + k) % len(want); ask(n) != want[n] {
					t.Errorf("of %d: not as it was alone: %s", n, ask(n))
				}
			}
		})
	}
	all.Wait()
}
