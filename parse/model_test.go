package parse

import (
	"fmt"
	"regexp"
	"slices"
	"strings"
	"testing"

	"deadbolt/api"
	"deadbolt/lex"
)

// nameForm is how names look, but for the words.
var nameForm = regexp.MustCompile(`\A[a-z][a-z0-9]{0,11}\z`)

// spelt is a token as it was written.
func spelt(x api.Token) string {
	return [...]string{api.TName: x.S, api.TOpen: "{", api.TClose: "}"}[x.Kind]
}

// What stands on the model's stack: what is awaited, the last one first.
const (
	decls = 'D' // declarations, or the end
	name  = 'N'
	block = 'B' // a block, from its brace on
	stmts = 'S' // statements, and the brace that closes them
	other = 'E' // an else, or nothing
)

// await tells what is awaited behind a token, instead of the last one of what was; false, if that one does not allow the token.
func await(was rune, token string) (now string, is bool) {
	now, is = map[string]string{
		"D var": "DN", "D lock": "DN", "D func": "DBN",
		"B {": "S", "S }": "",
		"S use": "SN", "S set": "SN", "S lock": "SN", "S unlock": "SN", "S call": "SN", "S spawn": "SN",
		"S if": "SEB", "S loop": "SB", "E else": "B",
	}[string(was)+" "+token]
	if was == name {
		return "", nameForm.MatchString(token) && !slices.Contains(words, token)
	}
	return now, is
}

// modelFault is the place and the error that Parse should answer of tokens, found by what is awaited from token to token.
func modelFault(l []api.Token, end int) (at int, e api.Errno) {
	stack := string(decls)
	for _, x := range l {
		now, is := await(rune(stack[len(stack)-1]), spelt(x))
		if !is && strings.HasSuffix(stack, string(other)) {
			stack = stack[:len(stack)-1]
			now, is = await(rune(stack[len(stack)-1]), spelt(x))
		}
		if !is {
			return x.At, api.ErrForm
		}
		if spelt(x) == "{" && strings.Count(stack, string(stmts)) >= 20 {
			return x.At, api.ErrDeep
		}
		stack = stack[:len(stack)-1] + now
	}
	if stack != string(decls) {
		return end, api.ErrForm
	}
	return 0, api.OK
}

// flatTokens tells of each kind of declarations which there are, with the statements behind their function: a word, its name, its place, and which blocks it stands in.
func flatTokens(l []api.Token) (flat [3][]string) {
	way := ""
	for i, x := range l {
		switch s := spelt(x); {
		case s == "{" && l[i-1].S == "else":
			way += "B"
		case s == "{":
			way += "A"
		case s == "}":
			way = way[:len(way)-1]
		case s == "if", s == "loop":
			flat[2] = append(flat[2], fmt.Sprint(s, "  ", x.At, way))
		case s != "else" && slices.Contains(words, s):
			kind := 2
			if way == "" {
				kind = slices.Index([]string{"var", "lock", "func"}, s)
			}
			flat[kind] = append(flat[kind], fmt.Sprint(s, " ", l[i+1].S, " ", x.At, way))
		}
	}
	return flat
}

// flatProg tells the same of a program.
func flatProg(p api.Prog) (flat [3][]string) {
	for _, d := range p.Vars {
		flat[0] = append(flat[0], fmt.Sprint("var ", d.Name, " ", d.At))
	}
	for _, d := range p.Locks {
		flat[1] = append(flat[1], fmt.Sprint("lock ", d.Name, " ", d.At))
	}
	var walk func(l []api.Stmt, way string)
	walk = func(l []api.Stmt, way string) {
		for _, s := range l {
			word := [...]string{1: "use", 2: "set", 3: "lock", 4: "unlock", 5: "call", 6: "spawn", 7: "if", 8: "loop"}[s.Kind]
			flat[2] = append(flat[2], fmt.Sprint(word, " ", s.Name, " ", s.At, way))
			walk(s.A, way+"A")
			walk(s.B, way+"B")
		}
	}
	for _, f := range p.Funcs {
		flat[2] = append(flat[2], fmt.Sprint("func ", f.Name, " ", f.At))
		walk(f.Body, "A")
	}
	return flat
}

var emptyElse = regexp.MustCompile(` else \{ \}`)

// modelText is what Text should answer, made of the tokens that were read.
func modelText(l []api.Token) string {
	var lines [3][]string
	for i := 0; i < len(l); {
		kind := slices.Index([]string{"var", "lock", "func"}, l[i].S)
		line := []string{l[i].S}
		for open := 0; ; {
			i++
			line = append(line, spelt(l[i]))
			open += map[int]int{api.TOpen: 1, api.TClose: -1}[l[i].Kind]
			if open == 0 && (kind < 2 || l[i].Kind == api.TClose) {
				break
			}
		}
		i++
		lines[kind] = append(lines[kind], emptyElse.ReplaceAllString(strings.Join(line, " "), "")+"\n")
	}
	return strings.Join(slices.Concat(lines[0], lines[1], lines[2]), "")
}

// asModel holds all that is said of a text against the model; it tells whether the text lacks nothing but an end.
func asModel(t *testing.T, s string) (cut bool) {
	t.Helper()
	l, at, e := lex.Tokens(s)
	if e == api.OK {
		at, e = modelFault(l, len(s))
	}
	if e != api.OK {
		refuses(t, s, at, e)
		return e == api.ErrForm && at == len(s)
	}
	p := made(t, s)
	if got, want := fmt.Sprint(flatProg(p)), fmt.Sprint(flatTokens(l)); got != want {
		t.Errorf("Parse(%.200q):\n%s; want\n%s", s, got, want)
	}
	writes(t, p, modelText(l))
	readAgain(t, p)
	return true
}

// readAgain holds P603: what is written of a program is read as it was; unless the text is too long (P501).
func readAgain(t *testing.T, p api.Prog) {
	t.Helper()
	s := Text(p)
	if len(s) > 2000 {
		refuses(t, s, 0, api.ErrLong)
		return
	}
	q := made(t, s)
	sames(t, p, q, true)
	writes(t, q, s)
	for _, f := range q.Funcs {
		if got := s[f.At : f.At+len("func ")+len(f.Name)+1+len(Body(f))]; got != "func "+f.Name+" "+Body(f) {
			t.Errorf("Body(%v) is not what Text has: %q", f, got)
		}
	}
}

// P601 to P603: all rows of tokens, as far as they may go on, with each token that follows, right or wrong.
func TestAllShortTexts(t *testing.T) {
	for _, x := range []struct {
		from   string
		tokens []string
		many   int
	}{
		{"", append([]string{"x", "{", "}"}, words...), 6},
		{"func f {", append([]string{"x", "{", "}"}, words...), 5},
		{"func f {", []string{"use", "x", "if", "else", "loop", "{", "}"}, 10},
		{"var x func f { if { } else {", []string{"set", "y", "if", "else", "{", "}", "lock"}, 9},
	} {
		texts := []string{x.from}
		for range x.many {
			var longer []string
			for _, s := range texts {
				for _, token := range x.tokens {
					if asModel(t, s+" "+token) {
						longer = append(longer, s+" "+token)
					}
				}
			}
			texts = longer
		}
		if len(texts) < 50 {
			t.Errorf("from %q on only %d texts were tried", x.from, len(texts))
		}
	}
}

// anyBlock is the tokens of one, with blocks that go so deep.
func anyBlock(d *dice, deep, many int) []string {
	l := []string{"{"}
	for range d.of(many + 1) {
		switch k := d.of(10); {
		case k < 6 || deep <= 0:
			l = append(l, []string{"use", "set", "lock", "unlock", "call", "spawn"}[d.of(6)], []string{"x", "y2", "m", "main", "abcdefghijkl"}[d.of(5)])
		case k < 7:
			l = append(append(l, "loop"), anyBlock(d, deep-1, many)...)
		default:
			l = append(append(l, "if"), anyBlock(d, deep-1, many)...)
			if k < 9 {
				l = append(append(l, "else"), anyBlock(d, deep-1, many)...)
			}
		}
	}
	return append(l, "}")
}

// anyTokens are those of a program.
func anyTokens(d *dice) []string {
	var l []string
	for range d.of(6) {
		switch d.of(4) {
		case 0:
			l = append(l, "var", []string{"x", "y", "z"}[d.of(3)])
		case 1:
			l = append(l, "lock", []string{"x", "m", "n"}[d.of(3)])
		default:
			l = append(append(l, "func", []string{"x", "f", "main"}[d.of(3)]), anyBlock(d, d.of(5), d.of(5))...)
		}
	}
	return l
}

// laid are tokens with blanks, line feeds or tabs between them, and where none are needed, none.
func laid(d *dice, tokens []string) string {
	var b strings.Builder
	tight := d.of(3) == 0
	for i, s := range tokens {
		apart := i > 0 && strings.Trim(tokens[i-1]+s, "{}") == tokens[i-1]+s
		if apart || !tight {
			b.WriteString([]string{" ", " ", "\n", "\t", "  ", " \n\t"}[d.of(6)])
		}
		b.WriteString(s)
	}
	if !tight {
		b.WriteString([]string{"", "\n", "   "}[d.of(3)])
	}
	return b.String()
}

// spoilt are tokens of which one is lacking, another one, twice, or has changed its place.
func spoilt(d *dice, tokens []string) []string {
	l := slices.Clone(tokens)
	if len(l) == 0 {
		return l
	}
	i, k := d.of(len(l)), d.of(len(l))
	any := append([]string{"{", "}", "x", "abcdefghijklm", "!", "1"}, words...)
	switch d.of(5) {
	case 0:
		return slices.Delete(l, i, i+1)
	case 1:
		l[i] = any[d.of(len(any))]
	case 2:
		return slices.Insert(l, i, any[d.of(len(any))])
	case 3:
		l[i], l[k] = l[k], l[i]
	default:
		return l[:i]
	}
	return l
}

// P1, P601 to P603: programs of all lengths, and what is nearly one.
func TestAnyTexts(t *testing.T) {
	d := &dice{7}
	for range 4000 {
		l := anyTokens(d)
		asModel(t, laid(d, l))
		asModel(t, laid(d, spoilt(d, l)))
		asModel(t, laid(d, spoilt(d, spoilt(d, l))))
	}
}

// P1, P601: any bytes.
func TestAnyBytes(t *testing.T) {
	d := &dice{11}
	for range 4000 {
		b := make([]byte, d.of(30))
		for i := range b {
			b[i] = byte(d.of(256))
		}
		asModel(t, string(b))
		for i := range b {
			b[i] = "var func{} { if loop}x \n"[d.of(24)]
		}
		asModel(t, string(b))
	}
}

// P603: where the text that is written comes to 2000 bytes, and to one more.
func TestReadAgainAtTheBound(t *testing.T) {
	for _, x := range []struct {
		name string
		long int
	}{{"abcdefghi", 1999}, {"abcdefghij", 2000}, {"abcdefghijk", 2001}, {"abcdefghijkl", 2002}} {
		p := made(t, "var "+x.name+" func main{"+strings.Repeat("loop{}", 219)+"}")
		if got := len(Text(p)); got != x.long {
			t.Fatalf("the text has %d bytes", got)
		}
		readAgain(t, p)
	}
}
