package lex

import (
	"fmt"
	"strings"
	"testing"

	"deadbolt/api"
)

// words are those of the language.
var words = strings.Fields("var lock func use set unlock call spawn if else loop")

// dice throws the same numbers in every run.
type dice struct{ n uint64 }

func (d *dice) of(k int) int {
	d.n = d.n*6364136223846793005 + 1442695040888963407
	return int(d.n>>33) % k
}

// told is what Tokens answers, as a text.
func told(l []api.Token, at int, e api.Errno) string {
	s := ""
	for _, x := range l {
		s += fmt.Sprintf("%d:%d:%q ", x.Kind, x.At, x.S)
	}
	return fmt.Sprintf("%s%d %v", s, at, e)
}

// lexes holds what Tokens answers of a text against what is told.
func lexes(t *testing.T, s, want string) {
	t.Helper()
	if got := told(Tokens(s)); got != want {
		t.Errorf("Tokens(%.60q) of %d bytes: %.300s; want %.300s", s, len(s), got, want)
	}
}

// refuses holds that Tokens answers a place, an error and nothing else (P4).
func refuses(t *testing.T, s string, at int, e api.Errno) {
	t.Helper()
	lexes(t, s, fmt.Sprintf("%d %v", at, e))
}

// P501: kinds, places and texts, each written out.
func TestTokens(t *testing.T) {
	for _, x := range []struct{ s, want string }{
		{"", "0 ok"},
		{" ", "0 ok"},
		{"\t\n \n\t", "0 ok"},
		{"x", `1:0:"x" 0 ok`},
		{"xyz09az", `1:0:"xyz09az" 0 ok`},
		{"x9y0 z", `1:0:"x9y0" 1:5:"z" 0 ok`},
		{"a0", `1:0:"a0" 0 ok`},
		{"z9", `1:0:"z9" 0 ok`},
		{"a\tb\nc d", `1:0:"a" 1:2:"b" 1:4:"c" 1:6:"d" 0 ok`},
		{" \n a \t ", `1:3:"a" 0 ok`},
		{"{", `2:0:"" 0 ok`},
		{"}", `3:0:"" 0 ok`},
		{"}{}}", `3:0:"" 2:1:"" 3:2:"" 3:3:"" 0 ok`},
		{"a{b}c1", `1:0:"a" 2:1:"" 1:2:"b" 3:3:"" 1:4:"c1" 0 ok`},
		{"func f{use x}\n", `1:0:"func" 1:5:"f" 2:6:"" 1:7:"use" 1:11:"x" 3:12:"" 0 ok`},
		{"if { } else { }", `1:0:"if" 2:3:"" 3:5:"" 1:7:"else" 2:12:"" 3:14:"" 0 ok`},
	} {
		lexes(t, x.s, x.want)
	}
}

// P501: the words of the language, and rows too long for a name, are tokens as all rows are.
func TestTokensOfAnyRow(t *testing.T) {
	for _, w := range append([]string{strings.Repeat("n", 12), strings.Repeat("n", 13), strings.Repeat("n", 1998)}, words...) {
		lexes(t, " "+w+"}", fmt.Sprintf(`1:1:"%s" 3:%d:"" 0 ok`, w, 1+len(w)))
	}
}

// P501: a byte that is of no token, and a digit that begins.
func TestTokensOfWrongBytes(t *testing.T) {
	for _, x := range []struct {
		s  string
		at int
	}{
		{"1", 0}, {"0a", 0}, {"a 1", 2}, {"a 9b", 2}, {"a\t1", 2}, {"a\n1", 2}, {"{1", 1}, {"}1", 1}, {"a{1}", 2},
		{"A", 0}, {"aB", 1}, {"x_y", 1}, {"x-y", 1}, {"x;", 1}, {"(x)", 0}, {"x.y", 1}, {"{[", 1},
		{"a\r\n", 1}, {"a\v", 1}, {"a\fb", 1}, {"\x00", 0}, {"ab\x00", 2}, {"a\x7f", 1},
		// The first one of several.
		{"a ! 1 ?", 2}, {"a 1 !", 2}, {"ok { } Z !", 7},
	} {
		refuses(t, x.s, x.at, api.ErrToken)
	}
}

// P501: each byte alone, behind a row, behind a blank, behind a brace, and ahead of a row.
func TestTokensOfEachByte(t *testing.T) {
	for c := range 256 {
		s := string([]byte{byte(c)})
		switch {
		case c >= 'a' && c <= 'z':
			lexes(t, s, `1:0:"`+s+`" 0 ok`)
			lexes(t, "k"+s, `1:0:"k`+s+`" 0 ok`)
			lexes(t, " "+s, `1:1:"`+s+`" 0 ok`)
			lexes(t, "}"+s, `3:0:"" 1:1:"`+s+`" 0 ok`)
			lexes(t, s+"k", `1:0:"`+s+`k" 0 ok`)
		case c >= '0' && c <= '9':
			refuses(t, s, 0, api.ErrToken)
			lexes(t, "k"+s, `1:0:"k`+s+`" 0 ok`)
			refuses(t, " "+s, 1, api.ErrToken)
			refuses(t, "}"+s, 1, api.ErrToken)
			refuses(t, s+"k", 0, api.ErrToken)
		case c == '{', c == '}':
			brace := map[int]string{'{': "2", '}': "3"}[c]
			lexes(t, s, brace+`:0:"" 0 ok`)
			lexes(t, "k"+s, `1:0:"k" `+brace+`:1:"" 0 ok`)
			lexes(t, " "+s, brace+`:1:"" 0 ok`)
			lexes(t, "}"+s, `3:0:"" `+brace+`:1:"" 0 ok`)
			lexes(t, s+"k", brace+`:0:"" 1:1:"k" 0 ok`)
		case c == ' ', c == '\t', c == '\n':
			lexes(t, s, `0 ok`)
			lexes(t, "k"+s, `1:0:"k" 0 ok`)
			lexes(t, " "+s, `0 ok`)
			lexes(t, "}"+s, `3:0:"" 0 ok`)
			lexes(t, s+"k", `1:1:"k" 0 ok`)
		default:
			refuses(t, s, 0, api.ErrToken)
			refuses(t, "k"+s, 1, api.ErrToken)
			refuses(t, " "+s, 1, api.ErrToken)
			refuses(t, "}"+s, 1, api.ErrToken)
			refuses(t, s+"k", 0, api.ErrToken)
		}
	}
}

// farSigns are of more than one byte, or spoilt; some would be letters, blanks or braces, were they cut to a byte or asked for by unicode.
var farSigns = []string{
	"\u00e9", "\u0161", "\u0130", "\u0120", "\u017b", "\u0261", "\u0660", "\uff41", "\uff5b", "\U00010061", "\U0001f512",
	"\u00a0", "\u0085", "\u2028", "\u3000", "\ufeff", "\ufffd", "\U0010ffff",
	"\xff", "\x80", "\xc3", "\xe2\x82", "\xf0\x9f\x94", "\xc1\xa1", "\xe0\x81\xa1", "\xed\xa0\x80", "\xf4\x90\x80\x80",
}

// P501: the place of a sign of several bytes is its first byte's.
func TestTokensOfFarSigns(t *testing.T) {
	for _, s := range farSigns {
		refuses(t, s, 0, api.ErrToken)
		refuses(t, "a"+s, 1, api.ErrToken)
		refuses(t, "lock m"+s+"x", 6, api.ErrToken)
		refuses(t, "a { "+s+" }", 4, api.ErrToken)
		refuses(t, "a }"+s, 3, api.ErrToken)
		refuses(t, "1"+s, 0, api.ErrToken)
		refuses(t, "a "+s+"!", 2, api.ErrToken)
	}
}

// P501: up to 2000 bytes.
func TestTokensOfLongTexts(t *testing.T) {
	lexes(t, strings.Repeat("a", 2000), `1:0:"`+strings.Repeat("a", 2000)+`" 0 ok`)
	lexes(t, strings.Repeat(" ", 2000), `0 ok`)
	lexes(t, strings.Repeat("\n", 1999)+"z", `1:1999:"z" 0 ok`)
	lexes(t, strings.Repeat("\t", 1999)+"}", `3:1999:"" 0 ok`)
	refuses(t, strings.Repeat(" ", 1999)+"7", 1999, api.ErrToken)
	refuses(t, strings.Repeat("a", 1999)+"?", 1999, api.ErrToken)
	if l, at, e := Tokens(strings.Repeat("{", 2000)); len(l) != 2000 || at != 0 || e != api.OK || l[1999] != (api.Token{Kind: api.TOpen, At: 1999}) {
		t.Errorf("2000 braces: %d tokens, %d, %v", len(l), at, e)
	}
	for _, s := range []string{"a", " ", "{", "}", "1", "!", "\xff"} {
		for _, n := range []int{2001, 2002, 4096, 1 << 20} {
			refuses(t, strings.Repeat(s, n), 0, api.ErrLong)
		}
	}
}

// P501, P6: too long goes ahead of a wrong byte, wherever that one is, and bytes are counted, not signs.
func TestTokensTooLongAndWrong(t *testing.T) {
	refuses(t, "!"+strings.Repeat(" ", 2000), 0, api.ErrLong)
	refuses(t, strings.Repeat(" ", 1000)+"1"+strings.Repeat(" ", 1000), 0, api.ErrLong)
	refuses(t, strings.Repeat(" ", 2000)+"!", 0, api.ErrLong)
	refuses(t, strings.Repeat("\u00e9", 1000), 0, api.ErrToken)
	refuses(t, strings.Repeat("\u00e9", 1001), 0, api.ErrLong)
	refuses(t, strings.Repeat(" ", 1998)+"\u00e9", 1998, api.ErrToken)
	refuses(t, strings.Repeat(" ", 1999)+"\u00e9", 0, api.ErrLong)
}

// names holds whether texts are names.
func names(t *testing.T, want bool, l ...string) {
	t.Helper()
	for _, s := range l {
		if Name(s) != want {
			t.Errorf("Name(%.60q): %v", s, !want)
		}
	}
}

// P501, W1.
func TestName(t *testing.T) {
	names(t, true, "a", "z", "a0", "z9", "main", "x1y2", "abcdefghijkl", "a12345678901", "zzzzzzzzzzzz")
	names(t, false, "", " ", "0", "9", "1a", "0main", "A", "aB", "mAin", "a_b", "a-b", "a b", " a", "a ", "a\n", "\ta", "a\x00", "\x00", "{", "}", "a{", "}a", "a.")
	names(t, false, "abcdefghijklm", "a123456789012", strings.Repeat("a", 2000), strings.Repeat("a", 2001), strings.Repeat("a", 1<<20), strings.Repeat("!", 1<<20))
	names(t, false, words...)
	for _, w := range words {
		names(t, true, w+"s", w+"0", "x"+w, w+w, w[:len(w)-1]+"q", w[:1])
		names(t, false, w+" ", " "+w, strings.ToUpper(w), "0"+w)
	}
	for _, s := range farSigns {
		names(t, false, s, "a"+s, s+"a", "ab"+s+"c", strings.Repeat(s, 12))
	}
}

// P501, W1: each byte in each place.
func TestNameOfEachByte(t *testing.T) {
	for n := 1; n <= 12; n++ {
		for i := range n {
			for c := range 256 {
				b := []byte(strings.Repeat("q", n))
				b[i] = byte(c)
				letter, digit := c >= 'a' && c <= 'z', c >= '0' && c <= '9'
				names(t, letter || digit && i > 0, string(b))
			}
		}
	}
}
