package parse

import (
	"deadbolt/api"
	"deadbolt/lex"
)

// fault is why a text is no program, and where. A reader panics with it: however deep it stands, there is nothing more to read.
type fault struct {
	at int
	e  api.Errno
}

// reader reads tokens from the left.
type reader struct {
	rest []api.Token
	end  int // the text's length
}

// next is the token that is read next; behind the last one, one of no kind, where the text ends.
func (r *reader) next() api.Token {
	if len(r.rest) == 0 {
		return api.Token{At: r.end}
	}
	return r.rest[0]
}

// take reads a token.
func (r *reader) take() api.Token {
	t := r.next()
	if len(r.rest) > 0 {
		r.rest = r.rest[1:]
	}
	return t
}

func (r *reader) prog() api.Prog {
	var p api.Prog
	for len(r.rest) > 0 {
		t := r.take()
		switch t.S {
		case "var":
			p.Vars = append(p.Vars, api.Decl{Name: r.name(), At: t.At})
		case "lock":
			p.Locks = append(p.Locks, api.Decl{Name: r.name(), At: t.At})
		case "func":
			name := r.name()
			p.Funcs = append(p.Funcs, api.Func{Name: name, At: t.At, Body: r.block(0)})
		default:
			panic(fault{t.At, api.ErrForm})
		}
	}
	return p
}

func (r *reader) name() string {
	t := r.take()
	if !lex.Name(t.S) {
		panic(fault{t.At, api.ErrForm})
	}
	return t.S
}

// block reads one that stands within so many others.
func (r *reader) block(within int) []api.Stmt {
	t := r.take()
	if t.Kind != api.TOpen {
		panic(fault{t.At, api.ErrForm})
	}
	if within >= api.MaxDeep {
		panic(fault{t.At, api.ErrDeep})
	}
	var l []api.Stmt
	for r.next().Kind != api.TClose {
		l = append(l, r.stmt(within+1))
	}
	r.take()
	return l
}

// stmt reads a statement that stands within so many blocks.
func (r *reader) stmt(within int) api.Stmt {
	t := r.take()
	s := api.Stmt{Kind: kindOf(t.S), At: t.At}
	switch s.Kind {
	case noKind:
		panic(fault{t.At, api.ErrForm})
	case api.SIf:
		s.A = r.block(within)
		if r.next().S == "else" {
			r.take()
			s.B = r.block(within)
		}
	case api.SLoop:
		s.A = r.block(within)
	default:
		s.Name = r.name()
	}
	return s
}
