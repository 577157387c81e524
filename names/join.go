package names

import (
	"slices"
	"strings"

	"deadbolt/api"
	"deadbolt/lex"
	"deadbolt/parse"
)

// apart is how far the places of one file are from those of the next one: further than a text is long.
const apart = 10000

// joined is the program of files.
func joined(l []api.File) (api.Prog, error) {
	if !sound(l) {
		return api.Prog{}, api.ErrArg
	}
	var all api.Prog
	for k, f := range byNames(l) {
		p, at, e := parse.Parse(f.Text)
		if e != api.OK {
			return api.Prog{}, placed{k*apart + at, e}
		}
		move(p, k*apart)
		all.Vars = append(all.Vars, p.Vars...)
		all.Locks = append(all.Locks, p.Locks...)
		all.Funcs = append(all.Funcs, p.Funcs...)
	}
	if err := faultOf(all); err != nil {
		return api.Prog{}, err
	}
	return all, nil
}

// sound tells whether files are a sound set (P401).
func sound(l []api.File) bool {
	if len(l) > api.MaxFiles {
		return false
	}
	for i, f := range l {
		twice := slices.ContainsFunc(l[:i], func(ahead api.File) bool { return ahead.Name == f.Name })
		if twice || !lex.Name(f.Name) || len(f.Text) > api.MaxText {
			return false
		}
	}
	return true
}

// byNames is a list of the same files, in the order of their names.
func byNames(l []api.File) []api.File {
	return slices.SortedFunc(slices.Values(l), func(a, b api.File) int { return strings.Compare(a.Name, b.Name) })
}

// move makes all places of a program greater.
func move(p api.Prog, by int) {
	for i := range p.Vars {
		p.Vars[i].At += by
	}
	for i := range p.Locks {
		p.Locks[i].At += by
	}
	for i := range p.Funcs {
		p.Funcs[i].At += by
		moveBlock(p.Funcs[i].Body, by)
	}
}

func moveBlock(l []api.Stmt, by int) {
	for i := range l {
		l[i].At += by
		moveBlock(l[i].A, by)
		moveBlock(l[i].B, by)
	}
}
