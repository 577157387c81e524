package store

import (
	"bytes"
	"maps"

	"deadbolt/api"
)

// How many bytes a number has that tells how many files or changes there are, what a change is, how long a name is, how long a text.
const (
	countSize = 1
	kindSize  = 1
	nameSize  = 1
	textSize  = 2
)

// What a change makes of a file.
const (
	gone  = 0
	there = 1
)

// wholeBytes tell all of a set.
func wholeBytes(s set) []byte {
	b := layNumber(nil, countSize, len(s))
	for _, f := range s.list() {
		b = layFile(b, f)
	}
	return b
}

// changeBytes tell what makes one set of another one.
func changeBytes(was, now set) []byte {
	count := 0
	var changes []byte
	for _, name := range names(was, now) {
		f, is := now[name]
		// A file that is not there is File{}, and no file has that one's name.
		if f == was[name] {
			continue
		}
		count++
		if is {
			changes = layNumber(changes, kindSize, there)
			changes = layFile(changes, f)
		} else {
			changes = layNumber(changes, kindSize, gone)
			changes = layText(changes, nameSize, name)
		}
	}
	return append(layNumber(nil, countSize, count), changes...)
}

// readWhole makes a set of its whole bytes; false, if they are no sound one's.
func readWhole(b []byte) (set, bool) {
	r := reader{b}
	var l []api.File
	for range r.number(countSize) {
		l = append(l, r.file())
	}
	s, is := setOf(l)
	// Laid again, it shows that nothing was lacking or left over, and that the names were in order.
	if !is || !bytes.Equal(wholeBytes(s), b) {
		return nil, false
	}
	return s, true
}

// readChange makes the next set of one and of change bytes; false, if they make none of it that is sound.
func readChange(was set, b []byte) (set, bool) {
	r := reader{b}
	changed := maps.Clone(was)
	for range r.number(countSize) {
		if r.number(kindSize) == there {
			f := r.file()
			changed[f.Name] = f
		} else {
			delete(changed, r.text(nameSize))
		}
	}
	// Sound behind the last change, not behind each: one may make room for the one ahead of it.
	now, is := setOf(changed.list())
	if !is || !bytes.Equal(changeBytes(was, now), b) {
		return nil, false
	}
	return now, true
}

// layNumber lays a number of so many bytes behind b, its lowest byte first.
func layNumber(b []byte, size, n int) []byte {
	for range size {
		b = append(b, byte(n))
		n >>= 8
	}
	return b
}

// layText lays a text behind b, and ahead of it its length, in so many bytes.
func layText(b []byte, size int, s string) []byte {
	return append(layNumber(b, size, len(s)), s...)
}

func layFile(b []byte, f api.File) []byte {
	return layText(layText(b, nameSize, f.Name), textSize, f.Text)
}

// reader reads what was laid. Behind the end of its bytes it reads noughts and shorter texts: who reads lays it again, and sees.
type reader struct{ rest []byte }

func (r *reader) take(n int) []byte {
	n = min(n, len(r.rest))
	b := r.rest[:n]
	r.rest = r.rest[n:]
	return b
}

func (r *reader) number(size int) int {
	n := 0
	for i, c := range r.take(size) {
		n |= int(c) << (8 * i)
	}
	return n
}

func (r *reader) text(size int) string {
	length := r.number(size)
	return string(r.take(length))
}

func (r *reader) file() api.File {
	name := r.text(nameSize)
	return api.File{Name: name, Text: r.text(textSize)}
}
