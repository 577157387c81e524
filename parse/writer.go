package parse

import (
	"strings"

	"deadbolt/api"
)

// writer writes words, one blank between those of a line.
type writer struct {
	text   strings.Builder
	inLine bool
}

func (w *writer) put(words ...string) {
	for _, s := range words {
		if w.inLine {
			w.text.WriteByte(' ')
		}
		w.text.WriteString(s)
		w.inLine = true
	}
}

func (w *writer) endLine() {
	w.text.WriteByte('\n')
	w.inLine = false
}

// openBlock is a block that is being written: what is left of it, and the block behind the else that follows it.
type openBlock struct{ rest, other []api.Stmt }

// block writes a block and all blocks within it. It does not call itself: a list that was handed in may be deeper than the stack.
func (w *writer) block(l []api.Stmt) {
	if endless(l) {
		l = nil // no text tells it
	}
	w.put("{")
	open := []openBlock{{rest: l}}
	for len(open) > 0 {
		top := &open[len(open)-1]
		switch {
		case len(top.rest) > 0:
			s := top.rest[0]
			top.rest = top.rest[1:]
			open = w.begin(open, s)
		case len(top.other) > 0:
			w.put("}", "else", "{")
			*top = openBlock{rest: top.other}
		default:
			w.put("}")
			open = open[:len(open)-1]
		}
	}
}

// begin writes a statement, of one with a block its beginning alone: that block is open then.
func (w *writer) begin(open []openBlock, s api.Stmt) []openBlock {
	w.put(wordOf(s.Kind))
	switch s.Kind {
	case api.SIf:
		w.put("{")
		return append(open, openBlock{rest: s.A, other: s.B})
	case api.SLoop:
		w.put("{")
		return append(open, openBlock{rest: s.A})
	}
	w.put(s.Name)
	return open
}
