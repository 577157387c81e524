package store

import (
	"maps"
	"slices"
	"strings"

	"deadbolt/api"
)

// set is a sound set of files, each under its name.
type set map[string]api.File

// setOf makes a set of files; false, if they are not sound.
func setOf(l []api.File) (set, bool) {
	if len(l) > api.MaxFiles {
		return nil, false
	}
	s := set{}
	for _, f := range l {
		if !isName(f.Name) || len(f.Text) > api.MaxText {
			return nil, false
		}
		if _, twice := s[f.Name]; twice {
			return nil, false
		}
		// Copied: it may be a piece of a far longer text, which would be kept with it.
		name := strings.Clone(f.Name)
		s[name] = api.File{Name: name, Text: strings.Clone(f.Text)}
	}
	return s, true
}

// list tells the files, by names.
func (s set) list() []api.File {
	l := make([]api.File, 0, len(s))
	for _, name := range names(s) {
		l = append(l, s[name])
	}
	return l
}

// names are those of all the sets, in rising order, none twice.
func names(sets ...set) []string {
	var l []string
	for _, s := range sets {
		l = slices.AppendSeq(l, maps.Keys(s))
	}
	slices.Sort(l)
	return slices.Compact(l)
}

// isName tells whether a text is a name (W1).
func isName(s string) bool {
	if len(s) < 1 || len(s) > api.MaxName || !isLetter(s[0]) || isWord(s) {
		return false
	}
	for i := range len(s) {
		if !isLetter(s[i]) && !isDigit(s[i]) {
			return false
		}
	}
	return true
}

func isLetter(c byte) bool { return c >= 'a' && c <= 'z' }

func isDigit(c byte) bool { return c >= '0' && c <= '9' }

// isWord tells whether a text is a word of the language.
func isWord(s string) bool {
	switch s {
	case "var", "lock", "func", "use", "set", "unlock", "call", "spawn", "if", "else", "loop":
		return true
	}
	return false
}
