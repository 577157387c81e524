package lex

import (
	"regexp"
	"slices"
	"strings"
	"testing"

	"deadbolt/api"
)

// How tokens, what parts them, and names look, as expressions of their own.
var (
	rowForm   = regexp.MustCompile(`\A[a-z][a-z0-9]*`)
	blankForm = regexp.MustCompile(`\A[ \t\n]+`)
	nameForm  = regexp.MustCompile(`\A[a-z][a-z0-9]{0,11}\z`)
)

// modelTokens is what Tokens should answer, found by cutting pieces off a text's beginning.
func modelTokens(s string) (l []api.Token, at int, e api.Errno) {
	if len(s) > 2000 {
		return nil, 0, api.ErrLong
	}
	for rest := s; rest != ""; {
		at := len(s) - len(rest)
		piece := rest[:1]
		if row := rowForm.FindString(rest); row != "" {
			piece = row
			l = append(l, api.Token{Kind: api.TName, At: at, S: row})
		} else if blank := blankForm.FindString(rest); blank != "" {
			piece = blank
		} else if piece == "{" {
			l = append(l, api.Token{Kind: api.TOpen, At: at})
		} else if piece == "}" {
			l = append(l, api.Token{Kind: api.TClose, At: at})
		} else {
			return nil, at, api.ErrToken
		}
		rest = rest[len(piece):]
	}
	return l, 0, api.OK
}

// spelt writes tokens, a blank between them.
func spelt(l []api.Token) string {
	var pieces []string
	for _, x := range l {
		switch x.Kind {
		case api.TOpen:
			pieces = append(pieces, "{")
		case api.TClose:
			pieces = append(pieces, "}")
		default:
			pieces = append(pieces, x.S)
		}
	}
	return strings.Join(pieces, " ")
}

// readAgain holds P502: of tokens, a blank between them, the same ones are read, each where it was written; unless the blanks make the text too long (P501).
func readAgain(t *testing.T, l []api.Token) {
	t.Helper()
	s := spelt(l)
	if len(s) > 2000 {
		refuses(t, s, 0, api.ErrLong)
		return
	}
	want := slices.Clone(l)
	at := 0
	for i := range want {
		want[i].At = at
		at += max(1, len(want[i].S)) + 1
	}
	lexes(t, s, told(want, 0, api.OK))
}

// asModel holds Tokens and Name of a text against the model, and the tokens against P502.
func asModel(t *testing.T, s string) {
	t.Helper()
	want, at, e := modelTokens(s)
	lexes(t, s, told(want, at, e))
	names(t, nameForm.MatchString(s) && !slices.Contains(words, s), s)
	readAgain(t, want)
}

// P501, P502: all texts of one and of two bytes.
func TestAllShortTexts(t *testing.T) {
	for a := range 256 {
		asModel(t, string([]byte{byte(a)}))
		for b := range 256 {
			asModel(t, string([]byte{byte(a), byte(b)}))
		}
	}
}

// P501, P502: all texts of up to six signs, of one sign of each kind.
func TestAllTextsOfFewSigns(t *testing.T) {
	texts := []string{""}
	for len(texts[0]) <= 6 {
		var longer []string
		for _, s := range texts {
			asModel(t, s)
			for _, sign := range []string{"k", "7", "{", "}", " ", "\n", "!"} {
				longer = append(longer, s+sign)
			}
		}
		texts = longer
	}
}

// anyText is a text of pieces that may be in one, and now and then of others.
func anyText(d *dice, pieces, wrong int) string {
	good := append([]string{"{", "}", " ", "\t", "\n", "a", "z", "m0", "x12", "main", "  ", strings.Repeat("q", 12), strings.Repeat("q", 13)}, words...)
	bad := append([]string{"1", "0", "A", "_", "\r", "\x00", "/", ":", "`", "|", "~", "@", "["}, farSigns...)
	var b strings.Builder
	for range pieces {
		if wrong > 0 && d.of(wrong) == 0 {
			b.WriteString(bad[d.of(len(bad))])
		} else {
			b.WriteString(good[d.of(len(good))])
		}
	}
	return b.String()
}

// P1, P501, P502: texts of all lengths, right and wrong ones, and any bytes.
func TestAnyTexts(t *testing.T) {
	d := &dice{5}
	for i := range 6000 {
		asModel(t, anyText(d, d.of(40), 0))
		asModel(t, anyText(d, d.of(40), 20))
		asModel(t, anyText(d, d.of(4), 4))
		if i%20 == 0 {
			asModel(t, anyText(d, d.of(900), 0))
			asModel(t, anyText(d, d.of(900), 400))
		}
		b := make([]byte, d.of(30))
		for k := range b {
			b[k] = byte(d.of(256))
		}
		asModel(t, string(b))
	}
}

// P502: where the tokens, a blank between them, come to 2000 bytes, and to one more.
func TestReadAgainAtTheBound(t *testing.T) {
	whole := strings.Repeat("{", 1000)
	for _, s := range []string{whole, whole[:999] + "bc", whole + "}", whole + "}}"} {
		l, _, e := Tokens(s)
		if e != api.OK || len(l) < 1000 {
			t.Fatalf("Tokens: %d of them, %v", len(l), e)
		}
		readAgain(t, l)
	}
}
