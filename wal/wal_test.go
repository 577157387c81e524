package wal

import (
	"bytes"
	"fmt"
	"testing"

	"deadbolt/api"
	"deadbolt/disk"
	"deadbolt/sect"
)

// dice throws the same numbers in every run.
type dice struct{ n uint64 }

func (d *dice) of(k int) int {
	d.n = d.n*6364136223846793005 + 1442695040888963407
	return int(d.n>>33) % k
}

func (d *dice) bytes(n int) []byte {
	b := make([]byte, n)
	for i := range b {
		b[i] = byte(d.of(256))
	}
	return b
}

// long is a text that is cut into so many Parts, the last of them full.
func long(parts int) string {
	return string((&dice{uint64(parts)}).bytes(52*parts - 4))
}

// topGen is the greatest generation that there may be.
const topGen = 1<<32 - 1

func newDisk(t *testing.T, sectors int) *disk.Disk {
	t.Helper()
	d, e := disk.New(sectors)
	if e != api.OK {
		t.Fatalf("disk.New(%d): %v", sectors, e)
	}
	return d
}

func cut(t *testing.T, gen, rec int, s string) []sect.Part {
	t.Helper()
	l, e := sect.Cut(gen, rec, []byte(s))
	if e != api.OK {
		t.Fatalf("sect.Cut(%d, %d): %v", gen, rec, e)
	}
	return l
}

// put lays Parts on a disk by hand, and makes them last.
func put(t *testing.T, d *disk.Disk, at int, parts ...sect.Part) {
	t.Helper()
	for i, p := range parts {
		b, e := sect.Bytes(p)
		if e != api.OK {
			t.Fatalf("sect.Bytes(%+v): %v", p, e)
		}
		if e := d.Write(at+i, b); e != api.OK {
			t.Fatalf("Write(%d): %v", at+i, e)
		}
	}
	if e := d.Flush(); e != api.OK {
		t.Fatalf("Flush: %v", e)
	}
}

func opened(t *testing.T, d *disk.Disk) (*Log, [][]byte) {
	t.Helper()
	l, recs, e := Open(d)
	if e != api.OK || l == nil {
		t.Fatalf("Open: %v, %v", l, e)
	}
	return l, recs
}

func state(l *Log) string { return fmt.Sprint(l.State()) }

func isAt(t *testing.T, l *Log, want string) {
	t.Helper()
	if got := state(l); got != want {
		t.Fatalf("State: %s; want %s", got, want)
	}
}

func appends(t *testing.T, l *Log, s string) {
	t.Helper()
	if is, e := l.Append([]byte(s)); !is || e != api.OK {
		t.Fatalf("Append of %d bytes at %s: %v, %v", len(s), state(l), is, e)
	}
}

func freshens(t *testing.T, l *Log, s string) {
	t.Helper()
	if e := l.Fresh([]byte(s)); e != api.OK {
		t.Fatalf("Fresh of %d bytes at %s: %v", len(s), state(l), e)
	}
}

// carries holds records against what they must carry.
func carries(t *testing.T, recs [][]byte, want ...string) {
	t.Helper()
	if len(recs) != len(want) {
		t.Fatalf("%d records %q; want %d", len(recs), recs, len(want))
	}
	for i, b := range recs {
		if string(b) != want[i] {
			t.Fatalf("record %d: %q; want %q", i, b, want[i])
		}
	}
}

// picture is all that a disk's sectors hold.
func picture(t *testing.T, d *disk.Disk) []byte {
	t.Helper()
	var all []byte
	for n := range d.Size() {
		b, e := d.Read(n)
		if e != api.OK {
			t.Fatalf("Read(%d): %v", n, e)
		}
		all = append(all, b...)
	}
	return all
}

// partAt is the Part that a sector is.
func partAt(t *testing.T, d *disk.Disk, n int) sect.Part {
	t.Helper()
	b, _ := d.Read(n)
	p, is := sect.Parse(b)
	if !is {
		t.Fatalf("sector %d is no Part", n)
	}
	return p
}

// P301: the chapter's example, on disks of all sizes.
func TestOpenOfANewDisk(t *testing.T) {
	for sectors := 8; sectors <= 256; sectors += 2 {
		d := newDisk(t, sectors)
		l, recs := opened(t, d)
		carries(t, recs)
		isAt(t, l, "0 0 0 0")
	}
}

// P301: what lies on a disk of two halves of 6 sectors, and what the log is then.
func TestOpen(t *testing.T) {
	piece := func(at int, p ...sect.Part) func(d *disk.Disk) {
		return func(d *disk.Disk) { put(t, d, at, p...) }
	}
	one := func(at, gen, rec int, s string) func(d *disk.Disk) {
		return piece(at, cut(t, gen, rec, s)...)
	}
	six, three := long(6), long(3)
	type lays []func(d *disk.Disk)
	for _, x := range []struct {
		what  string
		lay   lays
		state string
		recs  []string
	}{
		{"the first half alone", lays{one(0, 5, 0, "a")}, "5 0 1 1", []string{"a"}},
		{"the second half alone", lays{one(6, 5, 0, "a")}, "5 1 1 1", []string{"a"}},
		{"nothing as a record", lays{one(6, 5, 0, "")}, "5 1 1 1", []string{""}},
		{"a greater Gen in the second half", lays{one(0, 5, 0, "a"), one(6, 6, 0, "b")}, "6 1 1 1", []string{"b"}},
		{"a greater Gen in the first half", lays{one(0, 6, 0, "a"), one(6, 5, 0, "b")}, "6 0 1 1", []string{"a"}},
		{"one Gen in both", lays{one(0, 5, 0, "a"), one(6, 5, 0, "b"), one(7, 5, 1, "c")}, "5 0 1 1", []string{"a"}},
		{"the greatest Gen", lays{one(0, topGen-1, 0, "a"), one(6, topGen, 0, "b")}, "4294967295 1 1 1", []string{"b"}},
		{"Gens that differ in a high byte", lays{one(0, 1<<24, 0, "a"), one(6, 1<<24-1, 0, "b")}, "16777216 0 1 1", []string{"a"}},
		{"a record that fills the half", lays{one(6, 5, 0, six)}, "5 1 6 1", []string{six}},
		{"records that fill the half", lays{one(0, 5, 0, three), one(3, 5, 1, three)}, "5 0 6 2", []string{three, three}},
		{"six records", lays{one(6, 5, 0, "a"), one(7, 5, 1, "b"), one(8, 5, 2, "c"), one(9, 5, 3, ""), one(10, 5, 4, "e"), one(11, 5, 5, "f")}, "5 1 6 6", []string{"a", "b", "c", "", "e", "f"}},

		{"a first sector of another Rec", lays{one(0, 5, 1, "a"), one(6, 2, 0, "b")}, "2 1 1 1", []string{"b"}},
		{"a beginning that lacks its first Part", lays{piece(0, cut(t, 5, 0, three)[1:]...), one(6, 2, 0, "b")}, "2 1 1 1", []string{"b"}},
		{"a beginning that lacks its last Part", lays{piece(0, cut(t, 5, 0, three)[:2]...), one(6, 2, 0, "b")}, "2 1 1 1", []string{"b"}},
		{"a beginning with a Part of another Gen", lays{one(0, 5, 0, three), piece(1, cut(t, 4, 0, three)[1]), one(6, 2, 0, "b")}, "2 1 1 1", []string{"b"}},
		{"a beginning with a Part of another Rec", lays{one(0, 5, 0, three), piece(1, cut(t, 5, 1, three)[1]), one(6, 2, 0, "b")}, "2 1 1 1", []string{"b"}},
		{"a beginning that runs over the half's end", lays{one(0, 5, 0, long(7))}, "0 0 0 0", nil},
		{"a beginning that runs over the disk's end", lays{piece(6, cut(t, 5, 0, long(7))[:6]...)}, "0 0 0 0", nil},
		{"a beginning of 255 Parts", lays{piece(0, cut(t, 5, 0, long(255))[:12]...)}, "0 0 0 0", nil},
		{"a length that is too great", lays{piece(0, sect.Part{Gen: 5, Of: 1, Data: bytes.Repeat([]byte{255}, 52)})}, "0 0 0 0", nil},
		{"no beginning in either", lays{one(1, 5, 0, "a"), one(2, 5, 1, "a"), one(7, 5, 0, "a")}, "0 0 0 0", nil},
		{"a beginning ahead of the second half", lays{one(5, 5, 0, "a")}, "0 0 0 0", nil},

		{"a next Rec left out", lays{one(0, 5, 0, "a"), one(1, 5, 2, "b")}, "5 0 1 1", []string{"a"}},
		{"a Rec twice", lays{one(0, 5, 0, "a"), one(1, 5, 0, "b")}, "5 0 1 1", []string{"a"}},
		{"a next record of a lesser Gen", lays{one(0, 5, 0, "a"), one(1, 4, 1, "b")}, "5 0 1 1", []string{"a"}},
		{"a next record of a greater Gen", lays{one(0, 5, 0, "a"), one(1, 6, 1, "b")}, "5 0 1 1", []string{"a"}},
		{"a sector left free", lays{one(0, 5, 0, "a"), one(2, 5, 1, "b")}, "5 0 1 1", []string{"a"}},
		{"a next record that lacks a Part", lays{one(0, 5, 0, "a"), piece(1, cut(t, 5, 1, three)[:2]...), one(4, 5, 2, "c")}, "5 0 1 1", []string{"a"}},
		{"a next record that lacks its first Part", lays{one(0, 5, 0, "a"), piece(1, cut(t, 5, 1, three)[1:]...)}, "5 0 1 1", []string{"a"}},
		{"a third record that is none", lays{one(0, 5, 0, "a"), one(1, 5, 1, three), one(4, 5, 3, "c")}, "5 0 4 2", []string{"a", three}},
		{"a next record over the half's end", lays{one(0, 5, 0, "a"), one(1, 5, 1, six)}, "5 0 1 1", []string{"a"}},
		{"a next record over the disk's end", lays{one(6, 5, 0, "a"), piece(7, cut(t, 5, 1, six)[:5]...)}, "5 1 1 1", []string{"a"}},
		{"a full first half, and its next record in the second", lays{one(0, 5, 0, six), one(6, 5, 1, "b")}, "5 0 6 1", []string{six}},
	} {
		t.Run(x.what, func(t *testing.T) {
			d := newDisk(t, 12)
			for _, lay := range x.lay {
				lay(d)
			}
			l, recs := opened(t, d)
			isAt(t, l, x.state)
			carries(t, recs, x.recs...)
		})
	}
}

// P301: bytes that are no Parts are no log.
func TestOpenOfAnyBytes(t *testing.T) {
	x := &dice{1}
	for range 50 {
		d := newDisk(t, 8)
		for n := range 8 {
			d.Write(n, x.bytes(64))
		}
		l, recs := opened(t, d)
		isAt(t, l, "0 0 0 0")
		carries(t, recs)
	}
	d := newDisk(t, 8)
	put(t, d, 0, cut(t, 5, 0, "a")...)
	b, _ := d.Read(0)
	for i := range 8 * 64 {
		b[i/8] ^= 1 << (i % 8)
		d.Write(0, b)
		b[i/8] ^= 1 << (i % 8)
		l, _ := opened(t, d)
		isAt(t, l, "0 0 0 0")
	}
}

// P301: what was written and does not last yet is read too.
func TestOpenOfWhatDoesNotLast(t *testing.T) {
	d := newDisk(t, 8)
	b, _ := sect.Bytes(cut(t, 5, 0, "a")[0])
	d.Write(4, b)
	l, recs := opened(t, d)
	isAt(t, l, "5 1 1 1")
	carries(t, recs, "a")
}

// P301: Open burns no fuse, changes no sector and makes nothing last.
func TestOpenReadsAlone(t *testing.T) {
	for _, laid := range []bool{false, true} {
		d := newDisk(t, 8)
		if laid {
			put(t, d, 0, cut(t, 5, 0, "a")...)
		}
		b, _ := sect.Bytes(cut(t, 5, 1, "b")[0])
		d.Write(1, b)
		before, ops := picture(t, d), d.Ops()
		d.Fuse(0)
		opened(t, d)
		opened(t, d)
		if !bytes.Equal(picture(t, d), before) || d.Ops() != ops {
			t.Error("Open changed the disk")
		}
		d.Crash(nil)
		if b, _ := d.Read(1); !bytes.Equal(b, make([]byte, 64)) {
			t.Error("Open made a sector last")
		}
	}
}

// P301, P4
func TestOpenOfADeadDisk(t *testing.T) {
	d := newDisk(t, 8)
	put(t, d, 0, cut(t, 5, 0, "a")...)
	d.Fuse(0)
	d.Flush()
	if l, recs, e := Open(d); l != nil || len(recs) != 0 || e != api.ErrDead {
		t.Errorf("Open of a dead disk: %v, %q, %v", l, recs, e)
	}
	d.Fuse(-1)
	l, recs := opened(t, d)
	isAt(t, l, "5 0 1 1")
	carries(t, recs, "a")
}

// P302: Fits, at the last byte that does, whatever the log holds.
func TestFits(t *testing.T) {
	for sectors := 8; sectors <= 256; sectors += 2 {
		d := newDisk(t, sectors)
		most := sectors/2*52 - 4
		ask := func(l *Log) {
			t.Helper()
			for n, want := range map[int]bool{0: true, 1: true, most - 1: true, most: true, most + 1: false, most + 52: false, 255*52 - 4: false, 255*52 - 3: false, 1 << 20: false} {
				if l.Fits(make([]byte, n)) != want {
					t.Errorf("Fits of %d bytes in %d sectors: %v", n, sectors, !want)
				}
			}
			if !l.Fits(nil) {
				t.Error("Fits of nil: false")
			}
		}
		l, _ := opened(t, d)
		ask(l)
		freshens(t, l, long(sectors/2))
		ask(l)
		put(t, d, sectors-1, cut(t, topGen, 1, "z")...)
		l, _ = opened(t, d)
		ask(l)
		ops := d.Ops()
		d.Fuse(0)
		ask(l)
		d.Flush()
		ask(l)
		if d.Ops() != ops {
			t.Error("Fits wrote")
		}
	}
}

// P302: a row of records, and where they lie.
func TestAppendAndFresh(t *testing.T) {
	d := newDisk(t, 12)
	l, _ := opened(t, d)
	freshens(t, l, "one")
	isAt(t, l, "1 0 1 1")
	appends(t, l, long(2))
	isAt(t, l, "1 0 3 2")
	appends(t, l, "")
	isAt(t, l, "1 0 4 3")
	appends(t, l, long(2))
	isAt(t, l, "1 0 6 4")
	want := append(append(append(cut(t, 1, 0, "one"), cut(t, 1, 1, long(2))...), cut(t, 1, 2, "")...), cut(t, 1, 3, long(2))...)
	for n, p := range want {
		if got := partAt(t, d, n); fmt.Sprint(got) != fmt.Sprint(p) {
			t.Errorf("sector %d: %v; want %v", n, got, p)
		}
	}
	if !bytes.Equal(picture(t, d)[6*64:], make([]byte, 6*64)) {
		t.Error("the second half was written to")
	}
	if d.Ops() != 6+4 {
		t.Errorf("Ops: %d", d.Ops())
	}
	m, recs := opened(t, d)
	isAt(t, m, "1 0 6 4")
	carries(t, recs, "one", long(2), "", long(2))

	first := picture(t, d)[:6*64]
	freshens(t, l, long(3))
	isAt(t, l, "2 1 3 1")
	if !bytes.Equal(picture(t, d)[:6*64], first) || d.Ops() != 10+4 {
		t.Error("Fresh wrote to the log's own half, or too much")
	}
	appends(t, l, "more")
	isAt(t, l, "2 1 4 2")
	freshens(t, l, "x")
	isAt(t, l, "3 0 1 1")
	// The sectors behind it are of an older generation, and free.
	m, recs = opened(t, d)
	isAt(t, m, "3 0 1 1")
	carries(t, recs, "x")
	appends(t, m, long(5))
	isAt(t, m, "3 0 6 2")
	m, recs = opened(t, d)
	isAt(t, m, "3 0 6 2")
	carries(t, recs, "x", long(5))
}

// P302: an Append that is false has changed nothing, and asks no disk.
func TestAppendThatIsFalse(t *testing.T) {
	refuses := func(d *disk.Disk, l *Log, n int) {
		t.Helper()
		was, before, ops := state(l), picture(t, d), d.Ops()
		if is, e := l.Append(make([]byte, n)); is || e != api.OK {
			t.Errorf("Append of %d bytes at %s: %v, %v", n, was, is, e)
		}
		isAt(t, l, was)
		if !bytes.Equal(picture(t, d), before) || d.Ops() != ops {
			t.Errorf("Append of %d bytes at %s changed the disk", n, was)
		}
	}
	d := newDisk(t, 8)
	l, _ := opened(t, d)
	for _, n := range []int{0, 1, 48, 204, 205, 1 << 20} {
		refuses(d, l, n)
	}
	put(t, d, 1, cut(t, 5, 0, "not a beginning")...)
	l, _ = opened(t, d)
	refuses(d, l, 1)
	freshens(t, l, "a")
	for _, n := range []int{3*52 - 3, 4*52 - 4, 255*52 - 4, 255*52 - 3, 1 << 20} {
		refuses(d, l, n)
	}
	appends(t, l, long(3))
	for _, n := range []int{0, 1, 48, 49} {
		refuses(d, l, n)
	}
	d.Fuse(0)
	d.Flush()
	if is, e := l.Append(nil); is || e != api.OK {
		t.Errorf("Append to a full half of a dead disk: %v, %v", is, e)
	}
}

// P302: the last sector of a half, on the smallest and on the greatest disk.
func TestFullHalves(t *testing.T) {
	for _, sectors := range []int{8, 10, 256} {
		d := newDisk(t, sectors)
		l, _ := opened(t, d)
		size := sectors / 2
		for gen := 1; gen <= 4; gen++ {
			half := 1 - gen%2
			freshens(t, l, long(size))
			isAt(t, l, fmt.Sprint(gen, half, size, 1))
			m, recs := opened(t, d)
			isAt(t, m, state(l))
			carries(t, recs, long(size))
		}
		freshens(t, l, "0")
		want := []string{"0"}
		for n := 1; n < size; n++ {
			appends(t, l, fmt.Sprint(n))
			want = append(want, fmt.Sprint(n))
		}
		m, recs := opened(t, d)
		isAt(t, l, fmt.Sprint(5, 0, size, size))
		isAt(t, m, state(l))
		carries(t, recs, want...)
		if is, e := m.Append(nil); is || e != api.OK {
			t.Errorf("Append to a full half: %v, %v", is, e)
		}
	}
}

// P302, P5: what Fresh refuses, and that it has changed nothing then.
func TestFreshThatIsFull(t *testing.T) {
	refuses := func(d *disk.Disk, l *Log, n int) {
		t.Helper()
		was, before, ops := state(l), picture(t, d), d.Ops()
		if e := l.Fresh(make([]byte, n)); e != api.ErrFull {
			t.Errorf("Fresh of %d bytes at %s: %v", n, was, e)
		}
		isAt(t, l, was)
		if !bytes.Equal(picture(t, d), before) || d.Ops() != ops {
			t.Errorf("Fresh of %d bytes at %s changed the disk", n, was)
		}
	}
	d := newDisk(t, 8)
	l, _ := opened(t, d)
	for _, n := range []int{205, 255*52 - 4, 255*52 - 3, 1 << 20} {
		refuses(d, l, n)
	}
	freshens(t, l, "a")
	isAt(t, l, "1 0 1 1")
	refuses(d, l, 205)
	freshens(t, l, "b")
	isAt(t, l, "2 1 1 1")

	// One generation is left, and then none; the log goes on by Appends alone.
	put(t, d, 7, cut(t, topGen-1, 9, "z")...)
	l, _ = opened(t, d)
	freshens(t, l, "last")
	isAt(t, l, "4294967295 0 1 1")
	refuses(d, l, 0)
	refuses(d, l, 205)
	appends(t, l, "more")
	isAt(t, l, "4294967295 0 2 2")
	l, recs := opened(t, d)
	carries(t, recs, "last", "more")
	refuses(d, l, 0)

	// Ahead of the disk's errors.
	d.Fuse(0)
	d.Flush()
	for _, n := range []int{0, 205} {
		if e := l.Fresh(make([]byte, n)); e != api.ErrFull {
			t.Errorf("Fresh of %d bytes on a dead disk: %v", n, e)
		}
	}
}

// P302: the next generation is greater than that of each Part, wherever it lies and whether or not it is of a record.
func TestFreshsGeneration(t *testing.T) {
	for at := range 8 {
		d := newDisk(t, 8)
		put(t, d, 0, cut(t, 5, 0, "a")...)
		put(t, d, 4, cut(t, 4, 0, "b")...)
		put(t, d, at, cut(t, 50, 3, long(9))[7])
		l, _ := opened(t, d)
		freshens(t, l, "c")
		if gen, _, _, _ := l.State(); gen != 51 {
			t.Errorf("a Part of generation 50 at %d, then Fresh: %s", at, state(l))
		}
		freshens(t, l, "d")
		if gen, _, _, _ := l.State(); gen != 52 {
			t.Errorf("Fresh again: %s", state(l))
		}
	}
	// Overwritten or not, what was there when it was opened counts.
	d := newDisk(t, 8)
	put(t, d, 0, cut(t, 5, 0, "a")...)
	put(t, d, 5, cut(t, 50, 0, "b")...)
	l, _ := opened(t, d)
	d.Write(5, make([]byte, 64))
	freshens(t, l, "c")
	isAt(t, l, "51 1 1 1")
	// A sector that is no Part has none.
	d = newDisk(t, 8)
	b, _ := sect.Bytes(cut(t, 50, 0, "b")[0])
	b[63] ^= 1
	d.Write(5, b)
	l, _ = opened(t, d)
	freshens(t, l, "c")
	isAt(t, l, "1 0 1 1")
}

// P302: the first half, if none begins, whatever lies there.
func TestFreshWhereNoHalfBegins(t *testing.T) {
	d := newDisk(t, 8)
	put(t, d, 1, cut(t, 5, 0, "a")...)
	put(t, d, 4, cut(t, 7, 1, "b")...)
	l, _ := opened(t, d)
	freshens(t, l, long(2))
	isAt(t, l, "8 0 2 1")
	m, recs := opened(t, d)
	isAt(t, m, "8 0 2 1")
	carries(t, recs, long(2))
}

// P302, P4: the disk's error, at each of the writes and at the flush, and that Parts are written in order.
func TestErrorsOfTheDisk(t *testing.T) {
	for fuse := range 4 {
		for _, fresh := range []bool{false, true} {
			d := newDisk(t, 8)
			l, _ := opened(t, d)
			freshens(t, l, "a")
			before := picture(t, d)
			d.Fuse(fuse)
			is, e, at, want := false, api.OK, 1, cut(t, 1, 1, long(3))
			if fresh {
				e, at, want = l.Fresh([]byte(long(3))), 4, cut(t, 2, 0, long(3))
			} else {
				is, e = l.Append([]byte(long(3)))
			}
			if is || e != api.ErrDead {
				t.Fatalf("with a fuse of %d, fresh %v: %v, %v", fuse, fresh, is, e)
			}
			for n, p := range want[:fuse] {
				b, _ := sect.Bytes(p)
				copy(before[(at+n)*64:], b)
			}
			d.Fuse(-1)
			if !bytes.Equal(picture(t, d), before) {
				t.Errorf("with a fuse of %d, fresh %v: not the first %d Parts", fuse, fresh, fuse)
			}
		}
	}
}

// P1: behind a disk's error calls end, and none panics; so they do on a log and on a disk that nobody made.
func TestCallsEnd(t *testing.T) {
	all := func(l *Log) {
		for _, n := range []int{0, 1, 100, 204, 205, 20000} {
			l.Fits(make([]byte, n))
			l.Append(make([]byte, n))
			l.Fresh(make([]byte, n))
			l.State()
		}
	}
	for fuse := range 12 {
		d := newDisk(t, 8)
		l, _ := opened(t, d)
		d.Fuse(fuse)
		all(l)
		all(l)
		d.Fuse(-1)
		all(l)
		d.Crash([]byte{0x55})
		all(l)
		opened(t, d)
	}
	all(&Log{})
	if l, _, e := Open(&disk.Disk{}); e == api.OK {
		all(l)
	}
}
