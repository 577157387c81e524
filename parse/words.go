package parse

import "deadbolt/api"

// stmtWords are the words that statements begin with, in the order of their kinds, a blank behind each.
const stmtWords = "use set lock unlock call spawn if loop "

// noKind is no statement's.
const noKind = 0

// wordOf is the word that statements of a kind begin with; empty, if there is no such kind.
func wordOf(kind int) string {
	from, wordKind := 0, api.SUse
	for i, r := range stmtWords {
		if r != ' ' {
			continue
		}
		if wordKind == kind {
			return stmtWords[from:i]
		}
		from, wordKind = i+1, wordKind+1
	}
	return ""
}

// kindOf is the kind of the statements that begin with a word; noKind, if there are none.
func kindOf(word string) int {
	for kind := api.SUse; kind <= api.SLoop; kind++ {
		if wordOf(kind) == word {
			return kind
		}
	}
	return noKind
}
