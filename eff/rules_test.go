package eff

import "testing"

// same holds that a rule's two sides are one.
func same(t *testing.T, rule, one, other string, of ...string) {
	t.Helper()
	if one != other {
		t.Fatalf("%s: %q is not %q, of %q", rule, one, other, of)
	}
}

// through holds that a face goes through Then, from both sides.
func through(t *testing.T, name string, face func(a, b string) string, a, b, c string) {
	t.Helper()
	same(t, name+", then", Then(face(a, b), c), face(Then(a, c), Then(b, c)), a, b, c)
	same(t, "then, "+name, Then(a, face(b, c)), face(Then(a, b), Then(a, c)), a, b, c)
}

// rules holds the rules of three effects.
func rules(t *testing.T, a, b, c string) {
	t.Helper()
	same(t, "one behind the other", Then(Then(a, b), c), Then(a, Then(b, c)), a, b, c)
	through(t, "least", Least, a, b, c)
	through(t, "most", Most, a, b, c)
	same(t, "least of three", Least(Least(a, b), c), Least(a, Least(b, c)), a, b, c)
	same(t, "most of three", Most(Most(a, b), c), Most(a, Most(b, c)), a, b, c)
}

// pairRules holds the rules of two effects, and of one with those that are all the same.
func pairRules(t *testing.T, a, b string) {
	t.Helper()
	same(t, "least, turned round", Least(a, b), Least(b, a), a, b)
	same(t, "most, turned round", Most(a, b), Most(b, a), a, b)
	same(t, "least of most", Least(a, Most(a, b)), a, a, b)
	same(t, "most of least", Most(a, Least(a, b)), a, a, b)
	n := len(a)
	same(t, "twice", Then(a, a), a, a)
	same(t, "then nothing", Then(a, All(n, '1')), a, a)
	same(t, "nothing, then", Then(All(n, '1'), a), a, a)
	for _, c := range []byte("02") {
		same(t, "then all of one", Then(a, All(n, c)), All(n, c), a)
	}
	same(t, "the least of all", Least(a, All(n, '0')), All(n, '0'), a)
	same(t, "the most of all", Most(a, All(n, '2')), All(n, '2'), a)
	for at := -1; at <= n; at++ {
		if Has(Least(a, b), at) != (Has(a, at) && Has(b, at)) || Has(Most(a, b), at) != (Has(a, at) || Has(b, at)) {
			t.Fatalf("held at %d behind the least, the most of %q, %q", at, a, b)
		}
		for _, c := range []byte("012") {
			behind := All(n, '1')
			if at >= 0 && at < n && c != '1' {
				behind = behind[:at] + string(rune(c)) + behind[at+1:]
				same(t, "put is then", Put(a, at, c), Then(a, behind), a)
			}
			same(t, "put twice", Put(Put(a, at, '2'), at, c), Put(a, at, c), a)
			if at < 0 || at == n {
				same(t, "put nowhere", Put(a, at, c), a, a)
			}
		}
	}
}

// P902, of all effects of few locks.
func TestRules(t *testing.T) {
	for n := range 4 {
		for _, a := range effects(n) {
			for _, b := range effects(n) {
				pairRules(t, a, b)
				for _, c := range effects(n) {
					rules(t, a, b, c)
				}
			}
		}
	}
}

// P902, of any effects, up to those of as many locks as there may be.
func TestRulesOfMoreLocks(t *testing.T) {
	d := &dice{3}
	for n := 4; n <= 20; n++ {
		for range 300 {
			a, b, c := d.effect(n), d.effect(n), d.effect(n)
			pairRules(t, a, b)
			rules(t, a, b, c)
		}
	}
}

// P902: of a row of effects each way to take them together, one behind the other.
func TestHoweverTakenTogether(t *testing.T) {
	d := &dice{4}
	var taken func(l []string) string
	taken = func(l []string) string {
		if len(l) == 1 {
			return l[0]
		}
		cut := 1 + d.of(len(l)-1)
		return Then(taken(l[:cut]), taken(l[cut:]))
	}
	for range 500 {
		l := make([]string, 1+d.of(12))
		one := All(20, '1')
		for i := range l {
			l[i] = d.effect(20)
			one = Then(one, l[i])
		}
		for range 5 {
			same(t, "taken together", taken(l), one, l...)
		}
	}
}
