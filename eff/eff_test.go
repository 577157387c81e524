package eff

import (
	"math"
	"slices"
	"strings"
	"testing"
)

// dice throws the same numbers in every run.
type dice struct{ n uint64 }

func (d *dice) of(k int) int {
	d.n = d.n*6364136223846793005 + 1442695040888963407
	return int(d.n>>33) % k
}

// effect is any effect of n locks.
func (d *dice) effect(n int) string {
	b := make([]byte, n)
	for i := range b {
		b[i] = "012"[d.of(3)]
	}
	return string(b)
}

// effects are all effects of n locks.
func effects(n int) []string {
	l := []string{""}
	for range n {
		var longer []string
		for _, a := range l {
			longer = append(longer, a+"0", a+"1", a+"2")
		}
		l = longer
	}
	return l
}

// P901: n of it.
func TestAll(t *testing.T) {
	for _, x := range []struct {
		n    int
		c    byte
		want string
	}{
		{0, '0', ""}, {0, '1', ""}, {0, '2', ""}, {1, '0', "0"}, {1, '1', "1"}, {1, '2', "2"}, {2, '0', "00"}, {3, '1', "111"}, {5, '2', "22222"},
		{19, '0', "0000000000000000000"}, {20, '0', "00000000000000000000"}, {20, '1', "11111111111111111111"}, {20, '2', "22222222222222222222"},
	} {
		if got := All(x.n, x.c); got != x.want {
			t.Errorf("All(%d, %c): %q; want %q", x.n, x.c, got, x.want)
		}
	}
	for n := range 21 {
		for _, c := range []byte("012") {
			if got := All(n, c); len(got) != n || strings.Trim(got, string(rune(c))) != "" {
				t.Errorf("All(%d, %c): %q", n, c, got)
			}
		}
	}
}

// P901, P9: what is none is refused.
func TestAllOfNoEffects(t *testing.T) {
	for c := range 256 {
		for _, n := range []int{-1, 21, 22, -20, 40, 255, 256, math.MinInt, math.MaxInt, math.MinInt32, math.MaxInt32, 1 << 32, 1<<32 + 3} {
			if got := All(n, byte(c)); got != "" {
				t.Errorf("All(%d, %q): %q", n, byte(c), got)
			}
		}
		if strings.ContainsRune("012", rune(c)) {
			continue
		}
		for n := range 21 {
			if got := All(n, byte(c)); got != "" {
				t.Errorf("All(%d, %q): %q", n, byte(c), got)
			}
		}
	}
}

// pairs are all pairs of signs, with what Then, Least and Most answer of each.
var pairs = []struct{ a, b, then, least, most string }{
	{"0", "0", "0", "0", "0"},
	{"0", "1", "0", "0", "1"},
	{"0", "2", "2", "0", "2"},
	{"1", "0", "0", "0", "1"},
	{"1", "1", "1", "1", "1"},
	{"1", "2", "2", "1", "2"},
	{"2", "0", "0", "0", "2"},
	{"2", "1", "2", "1", "2"},
	{"2", "2", "2", "2", "2"},
}

// both holds what Then, Least and Most answer of two effects.
func both(t *testing.T, a, b, then, least, most string) {
	t.Helper()
	if got := Then(a, b); got != then {
		t.Errorf("Then(%q, %q): %q; want %q", a, b, got, then)
	}
	if got := Least(a, b); got != least {
		t.Errorf("Least(%q, %q): %q; want %q", a, b, got, least)
	}
	if got := Most(a, b); got != most {
		t.Errorf("Most(%q, %q): %q; want %q", a, b, got, most)
	}
}

// P901: of one lock, of none, and all pairs in one effect.
func TestThenLeastMost(t *testing.T) {
	both(t, "", "", "", "", "")
	for _, x := range pairs {
		both(t, x.a, x.b, x.then, x.least, x.most)
	}
	both(t, "000111222", "012012012", "002012022", "000011012", "012112222")
	both(t, "012012012", "000111222", "000012222", "000011012", "012112222")
	both(t, "2", "1", "2", "1", "2") // the chapter's example
	both(t, "20", "12", "22", "10", "22")
	both(t, "11111111111111111111", "01201201201201201201", "01201201201201201201", "01101101101101101101", "11211211211211211211")
	both(t, "00000000000000000002", "11111111111111111111", "00000000000000000002", "00000000000000000001", "11111111111111111112")
}

// P901: each lock by itself, at every place, whatever the other ones are.
func TestEachLockByItself(t *testing.T) {
	d := &dice{1}
	for n := 1; n <= 20; n++ {
		for range 200 {
			var a, b, then, least, most string
			for range n {
				x := pairs[d.of(9)]
				a, b, then, least, most = a+x.a, b+x.b, then+x.then, least+x.least, most+x.most
			}
			both(t, a, b, then, least, most)
		}
	}
}

// P8: effects of different programs have no lock in common.
func TestOfDifferentLengths(t *testing.T) {
	for n := range 21 {
		for m := range 21 {
			if n != m {
				both(t, All(n, '1'), All(m, '2'), "", "", "")
			}
		}
	}
}

// behind tells by an effect which locks are held behind it, those of before being held ahead of it.
func behind(before []bool, a string) []bool {
	l := slices.Clone(before)
	for i := range a {
		if a[i] != '1' {
			l[i] = a[i] == '2'
		}
	}
	return l
}

// P901: Then is what happens to locks that are held or not, Least and Most bound that from below, from above, and Has tells it of those that are not held at first.
func TestWhatBecomesOfLocks(t *testing.T) {
	for _, a := range effects(3) {
		for i, is := range behind(make([]bool, 3), a) {
			if Has(a, i) != is {
				t.Errorf("Has(%q, %d): %v", a, i, !is)
			}
		}
		for _, b := range effects(3) {
			for k := range 8 {
				before := []bool{k&1 != 0, k&2 != 0, k&4 != 0}
				if got, want := behind(before, Then(a, b)), behind(behind(before, a), b); !slices.Equal(got, want) {
					t.Errorf("Then(%q, %q) of %v: %v; want %v", a, b, before, got, want)
				}
				byA, byB, least, most := behind(before, a), behind(before, b), behind(before, Least(a, b)), behind(before, Most(a, b))
				for i := range before {
					if least[i] != (byA[i] && byB[i]) || most[i] != (byA[i] || byB[i]) {
						t.Errorf("Least, Most of %q, %q, of %v: %v, %v", a, b, before, least, most)
					}
				}
			}
		}
	}
}

// P901: with c for that lock, as it is without one.
func TestPut(t *testing.T) {
	for _, x := range []struct {
		a    string
		at   int
		c    byte
		want string
	}{
		{"0", 0, '2', "2"}, {"2", 0, '0', "0"}, {"1", 0, '1', "1"}, {"012", 0, '1', "112"}, {"012", 1, '0', "002"}, {"012", 2, '0', "010"}, {"012", 2, '1', "011"}, {"012", 0, '2', "212"},
		{"11111111111111111111", 19, '2', "11111111111111111112"}, {"22222222222222222222", 0, '0', "02222222222222222222"}, {"00000000000000000000", 10, '1', "00000000001000000000"},
		{"012", 3, '0', "012"}, {"012", -1, '0', "012"}, {"0", 1, '2', "0"}, {"", 0, '2', ""}, {"", -1, '2', ""}, {"", 1, '2', ""}, {"11111111111111111111", 20, '2', "11111111111111111111"},
		{"012", math.MaxInt, '1', "012"}, {"012", math.MinInt, '1', "012"}, {"012", 1 << 32, '1', "012"}, {"012", -1 << 32, '1', "012"}, {"012", 256, '1', "012"}, {"012", -3, '1', "012"},
	} {
		if got := Put(x.a, x.at, x.c); got != x.want {
			t.Errorf("Put(%q, %d, %c): %q; want %q", x.a, x.at, x.c, got, x.want)
		}
	}
	d := &dice{2}
	for n := range 21 {
		for at := -25; at < 45; at++ {
			a, c := d.effect(n), "012"[d.of(3)]
			want := a
			if at >= 0 && at < n {
				want = a[:at] + string(rune(c)) + a[at+1:]
			}
			if got := Put(a, at, c); got != want {
				t.Errorf("Put(%q, %d, %c): %q; want %q", a, at, c, got, want)
			}
		}
	}
}

// P901: whether it is 2, no without a lock.
func TestHas(t *testing.T) {
	for _, x := range []struct {
		a    string
		at   int
		want bool
	}{
		{"0", 0, false}, {"1", 0, false}, {"2", 0, true}, {"012", 0, false}, {"012", 1, false}, {"012", 2, true}, {"200", 0, true}, {"200", 1, false}, {"020", 1, true}, {"020", 2, false},
		{"11111111111111111112", 19, true}, {"11111111111111111112", 18, false}, {"22222222222222222221", 19, false}, {"22222222222222222222", 20, false},
		{"", 0, false}, {"", -1, false}, {"", 1, false}, {"222", 3, false}, {"222", -1, false}, {"222", -3, false}, {"222", math.MaxInt, false}, {"222", math.MinInt, false}, {"222", 1 << 32, false}, {"222", -1 << 32, false}, {"222", 256, false},
	} {
		if got := Has(x.a, x.at); got != x.want {
			t.Errorf("Has(%q, %d): %v", x.a, x.at, got)
		}
	}
	for n := range 21 {
		for at := -25; at < 45; at++ {
			for _, c := range []byte("012") {
				if Has(All(n, c), at) != (c == '2' && at >= 0 && at < n) {
					t.Errorf("Has of %d of %c, %d", n, c, at)
				}
			}
			for place := range n {
				if Has(Put(All(n, '1'), place, '2'), at) != (at == place) {
					t.Errorf("Has of %d locks, the one at %d held, %d", n, place, at)
				}
			}
		}
	}
}
