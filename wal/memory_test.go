package wal

import (
	"bytes"
	"testing"

	"deadbolt/api"
)

// spared is b with spare room behind it, and the whole of it.
func spared(b []byte) (part, whole []byte) {
	whole = append(bytes.Clone(b), bytes.Repeat([]byte{0xa5}, 100)...)
	return whole[:len(b)], whole
}

// spoil changes all of a list, its spare room too.
func spoil(b []byte) {
	b = b[:cap(b)]
	for i := range b {
		b[i] ^= 0xff
	}
}

// P2: what is handed in stays as it is, and may be changed afterwards.
func TestMemoryOfWhatIsHandedIn(t *testing.T) {
	d := newDisk(t, 16)
	l, _ := opened(t, d)
	calls := map[string]func(b []byte){
		"Fits":   func(b []byte) { l.Fits(b) },
		"Fresh":  func(b []byte) { l.Fresh(b) },
		"Append": func(b []byte) { l.Append(b) },
	}
	for _, n := range []int{0, 1, 47, 48, 49, 100, 1000, 20000} {
		for what, call := range calls {
			b, whole := spared((&dice{3}).bytes(n))
			kept := bytes.Clone(whole)
			call(b)
			if !bytes.Equal(whole, kept) {
				t.Errorf("%s of %d bytes changed them, or their spare room", what, n)
			}
		}
	}
	first, second := []byte(long(2)), []byte(long(3))
	if e := l.Fresh(first); e != api.OK {
		t.Fatalf("Fresh: %v", e)
	}
	spoil(first)
	if is, e := l.Append(second); !is || e != api.OK {
		t.Fatalf("Append: %v, %v", is, e)
	}
	spoil(second)
	_, recs := opened(t, d)
	carries(t, recs, long(2), long(3))
}

// P2: what is answered is new memory, record by record.
func TestMemoryOfRecords(t *testing.T) {
	d := newDisk(t, 16)
	l, _ := opened(t, d)
	want := []string{"a", long(2), "", long(1), "e"}
	freshens(t, l, want[0])
	for _, s := range want[1:] {
		appends(t, l, s)
	}
	before := picture(t, d)
	l, recs := opened(t, d)
	for i := range recs {
		spoil(recs[i])
		carries(t, recs[i+1:], want[i+1:]...)
	}
	more := recs[:cap(recs)]
	for i := range more {
		more[i] = nil
	}
	if !bytes.Equal(picture(t, d), before) {
		t.Error("the disk changed with the records that were answered")
	}
	isAt(t, l, "1 0 6 5")
	appends(t, l, "f")
	_, recs = opened(t, d)
	carries(t, recs, append(want, "f")...)
}

// P7: logs of two disks do not touch one another.
func TestLogsSideBySide(t *testing.T) {
	d, f := newDisk(t, 8), newDisk(t, 8)
	l, _ := opened(t, d)
	m, _ := opened(t, f)
	freshens(t, l, "a")
	freshens(t, l, "b")
	isAt(t, m, "0 0 0 0")
	freshens(t, m, "c")
	isAt(t, m, "1 0 1 1")
	isAt(t, l, "2 1 1 1")
	// Two logs of one disk keep each a State of their own.
	n, _ := opened(t, d)
	appends(t, l, "d")
	isAt(t, l, "2 1 2 2")
	isAt(t, n, "2 1 1 1")
	_, recs := opened(t, d)
	carries(t, recs, "b", "d")
	_, recs = opened(t, f)
	carries(t, recs, "c")
}
