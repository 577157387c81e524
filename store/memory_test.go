package store

import (
	"fmt"
	"testing"

	"deadbolt/api"
)

// spared is a list with spare room behind it, and the whole of it.
func spared(l []api.File) (part, whole []api.File) {
	whole = append(append([]api.File{}, l...), files("spare", "room", "spare2", "room2")...)
	return whole[:len(l)], whole
}

// spoil changes all of a list, its spare room too.
func spoil(l []api.File) {
	l = l[:cap(l)]
	for i := range l {
		l[i] = api.File{Name: "spoilt", Text: fmt.Sprint(i)}
	}
}

// P2: a list that is handed in stays as it is, in its own order, and its spare room too.
func TestCommitChangesNoList(t *testing.T) {
	d := newDisk(t, 16)
	s := opened(t, d)
	for _, l := range [][]api.File{nil, files("b", "2", "a", "1"), files("b", "2", "a", "1"), files("b", "", "1", "", "a", ""), files("c", x(2000), "b", ""), files("c", x(90), "b", ""), files("a", x(300), "c", x(40))} {
		part, whole := spared(l)
		was := told(whole)
		s.Commit(part)
		if told(whole) != was {
			t.Errorf("Commit of %s changed it: %s", told(l), told(whole))
		}
	}
}

// P2: a list that was handed in is not kept.
func TestCommitKeepsNoList(t *testing.T) {
	d := newDisk(t, 16)
	s := opened(t, d)
	l, _ := spared(files("b", "2", "a", "1"))
	if e := s.Commit(l); e != api.OK {
		t.Fatalf("Commit: %v", e)
	}
	spoil(l)
	has(t, s, "a", "1", "b", "2")
	commits(t, s, "a", "1", "b", "3")
	logs(t, d, "1 0 3 3", "\x00", "\x02\x01\x01a\x01\x001\x01\x01b\x01\x002", "\x01\x01\x01b\x01\x003")
}

// P2: Files answers a new list each time, its spare room too.
func TestFilesAnswersNewLists(t *testing.T) {
	d := newDisk(t, 16)
	s := opened(t, d)
	for _, want := range [][]string{nil, {"a", "1"}, {"a", "1", "b", "2", "c", "3"}, {"c", "3"}} {
		commits(t, s, want...)
		first, second := s.Files(), s.Files()
		spoil(first)
		if told(second) != told(files(want...)) {
			t.Errorf("one list changed with the other: %s", told(second))
		}
		has(t, s, want...)
		spoil(second)
		has(t, s, want...)
		// Nor does a later Commit change what was answered.
		kept := s.Files()
		commits(t, s, "other", "file")
		if told(kept) != told(files(want...)) {
			t.Errorf("Commit changed what Files had answered: %s", told(kept))
		}
	}
	// Those that were opened are no one's else either.
	commits(t, s, "a", "1", "b", "2")
	s = opened(t, d)
	spoil(s.Files())
	has(t, s, "a", "1", "b", "2")
	spoil(s.Files())
	commits(t, s, "a", "1")
	has(t, opened(t, d), "a", "1")
}

// P2: an answer may be handed in again.
func TestCommitOfWhatFilesAnswered(t *testing.T) {
	d := newDisk(t, 16)
	s := opened(t, d)
	commits(t, s, "a", "1", "b", "2")
	l := s.Files()
	l[0].Text = "new"
	has(t, s, "a", "1", "b", "2")
	if e := s.Commit(l); e != api.OK {
		t.Fatalf("Commit: %v", e)
	}
	has(t, s, "a", "new", "b", "2")
	l[1].Text = "newer"
	has(t, s, "a", "new", "b", "2")
}

// P7: Stores of two disks do not touch one another; of one disk, each has the files that it opened or committed.
func TestStoresSideBySide(t *testing.T) {
	d, f := newDisk(t, 16), newDisk(t, 16)
	s, u := opened(t, d), opened(t, f)
	commits(t, s, "a", "1")
	has(t, u)
	commits(t, u, "a", "2", "b", "3")
	has(t, s, "a", "1")
	commits(t, s)
	has(t, u, "a", "2", "b", "3")
	s = opened(t, d)
	has(t, s)
	has(t, opened(t, f), "a", "2", "b", "3")

	commits(t, s, "a", "1")
	v := opened(t, d)
	has(t, v, "a", "1")
	commits(t, v, "a", "2")
	has(t, s, "a", "1")
	has(t, v, "a", "2")
	has(t, opened(t, d), "a", "2")
}

// P3: the same calls in the same order answer the same, and leave the same disk.
func TestTheSameAgain(t *testing.T) {
	do := func() string {
		d := newDisk(t, 14)
		s := opened(t, d)
		z := &dice{8}
		all := ""
		for range 60 {
			e := s.Commit(anyFiles(z, 100))
			all += fmt.Sprint(e, told(s.Files()))
		}
		return all + picture(t, d)
	}
	first := do()
	for range 5 {
		if do() != first {
			t.Fatal("the same calls answered something else")
		}
	}
}
