package lex

import (
	"strings"
	"sync"
	"testing"
	"unsafe"

	"deadbolt/api"
)

// textOver is a text that lies in b itself, so that a test sees who keeps or changes it.
func textOver(b []byte) string { return unsafe.String(unsafe.SliceData(b), len(b)) }

// spoil changes all of a list, its spare room too.
func spoil(l []api.Token) {
	l = l[:cap(l)]
	for i := range l {
		l[i] = api.Token{Kind: 99, At: -1, S: "spoilt"}
	}
}

// P2: a text that is handed in, and what lies behind it, stays as it is, and the tokens do not hang on it.
func TestTextIsNotKeptOrChanged(t *testing.T) {
	for _, s := range []string{"var x\nlock m func main { use x }", "a", "lock", "a1b2{", "a !", "1", strings.Repeat("a", 2000), strings.Repeat("a", 2001)} {
		whole := []byte(s + "spare room")
		text := textOver(whole[:len(s)])
		l, at, e := Tokens(text)
		Name(text)
		if string(whole) != s+"spare room" {
			t.Errorf("Tokens(%.60q) changed it: %.80q", s, whole)
		}
		want := told(modelTokens(s))
		for i := range whole {
			whole[i] = '#'
		}
		if got := told(l, at, e); got != want {
			t.Errorf("the tokens of %.60q changed with the text: %.300s", s, got)
		}
	}
}

// P2, P3: each answer is a list of its own, its spare room too.
func TestTokensAreNewLists(t *testing.T) {
	for _, s := range []string{"", "a", "a{", "a{b", "a{b}c", "var x lock m func main { }", "a !"} {
		want := told(modelTokens(s))
		first, at, e := Tokens(s)
		second, _, _ := Tokens(s)
		spoil(first)
		_ = append(second, api.Token{Kind: 98})
		if got := told(second, at, e); got != want {
			t.Errorf("Tokens(%q): one list changed with the other: %s", s, got)
		}
		spoil(second)
		lexes(t, s, want)
	}
}

// P3: what was asked ahead of it, or at the same time, changes no answer.
func TestTokensSideBySide(t *testing.T) {
	texts := []string{"a", "", "a !", "lock m", strings.Repeat("{", 2001), "{ } 1", "\xff", "func f { }"}
	var all sync.WaitGroup
	for k := range 8 {
		all.Go(func() {
			for i := range 400 {
				s := texts[(i*(2*k+1)+k)%len(texts)]
				if got, want := told(Tokens(s)), told(modelTokens(s)); got != want {
					t.Errorf("Tokens(%.60q): %s; want %s", s, got, want)
				}
				if want := nameForm.MatchString(s); Name(s) != want {
					t.Errorf("Name(%.60q): %v", s, !want)
				}
			}
		})
	}
	all.Wait()
}
