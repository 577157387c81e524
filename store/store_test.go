package store

import (
	"bytes"
	"fmt"
	"strings"
	"testing"

	"deadbolt/api"
	"deadbolt/disk"
	"deadbolt/sect"
	"deadbolt/wal"
)

// dice throws the same numbers in every run.
type dice struct{ n uint64 }

func (d *dice) of(k int) int {
	d.n = d.n*6364136223846793005 + 1442695040888963407
	return int(d.n>>33) % k
}

// topGen is the greatest generation that there may be.
const topGen = 1<<32 - 1

// files makes a list of names and texts by turns.
func files(l ...string) []api.File {
	var f []api.File
	for i := 0; i < len(l); i += 2 {
		f = append(f, api.File{Name: l[i], Text: l[i+1]})
	}
	return f
}

// told is a list of files, as a text.
func told(l []api.File) string {
	s := ""
	for _, f := range l {
		s += fmt.Sprintf("%q:%q ", f.Name, f.Text)
	}
	return s
}

func x(n int) string { return strings.Repeat("x", n) }

func newDisk(t *testing.T, sectors int) *disk.Disk {
	t.Helper()
	d, e := disk.New(sectors)
	if e != api.OK {
		t.Fatalf("disk.New(%d): %v", sectors, e)
	}
	return d
}

func opened(t *testing.T, d *disk.Disk) *Store {
	t.Helper()
	s, e := Open(d)
	if e != api.OK || s == nil {
		t.Fatalf("Open: %v, %v", s, e)
	}
	return s
}

func commits(t *testing.T, s *Store, l ...string) {
	t.Helper()
	if e := s.Commit(files(l...)); e != api.OK {
		t.Fatalf("Commit of %s: %v", told(files(l...)), e)
	}
}

// has holds a Store's files against names and texts by turns.
func has(t *testing.T, s *Store, want ...string) {
	t.Helper()
	if got := told(s.Files()); got != told(files(want...)) {
		t.Fatalf("Files: %s; want %s", got, told(files(want...)))
	}
}

// records are what the log of a disk carries, and where it is.
func records(t *testing.T, d *disk.Disk) (state string, recs []string) {
	t.Helper()
	l, all, e := wal.Open(d)
	if e != api.OK {
		t.Fatalf("wal.Open: %v", e)
	}
	for _, b := range all {
		recs = append(recs, string(b))
	}
	return fmt.Sprint(l.State()), recs
}

// logs holds a disk's log against what it must be.
func logs(t *testing.T, d *disk.Disk, state string, want ...string) {
	t.Helper()
	got, recs := records(t, d)
	if got != state || fmt.Sprintf("%q", recs) != fmt.Sprintf("%q", want) {
		t.Fatalf("the log at %s: %q; want at %s: %q", got, recs, state, want)
	}
}

// write makes a disk's log of these records, by wal alone.
func write(t *testing.T, d *disk.Disk, recs ...string) {
	t.Helper()
	l, _, e := wal.Open(d)
	if e == api.OK {
		e = l.Fresh([]byte(recs[0]))
	}
	if e != api.OK {
		t.Fatalf("Fresh of %q: %v", recs[0], e)
	}
	for _, r := range recs[1:] {
		if is, e := l.Append([]byte(r)); !is || e != api.OK {
			t.Fatalf("Append of %q: %v, %v", r, is, e)
		}
	}
}

// putPart lays a Part of that generation on a disk, one that is of no record.
func putPart(t *testing.T, d *disk.Disk, at, gen int) {
	t.Helper()
	b, e := sect.Bytes(sect.Part{Gen: gen, Rec: 9, N: 1, Of: 3, Data: make([]byte, 52)})
	if e != api.OK || d.Write(at, b) != api.OK || d.Flush() != api.OK {
		t.Fatalf("a Part of generation %d cannot be laid: %v", gen, e)
	}
}

// picture is all that a disk's sectors hold, and how much was done to it.
func picture(t *testing.T, d *disk.Disk) string {
	t.Helper()
	var all []byte
	for n := range d.Size() {
		b, e := d.Read(n)
		if e != api.OK {
			t.Fatalf("Read(%d): %v", n, e)
		}
		all = append(all, b...)
	}
	return fmt.Sprint(d.Ops(), all)
}

// kill makes a disk dead.
func kill(d *disk.Disk) {
	d.Fuse(0)
	d.Flush()
}

// P401: the chapter's example, on disks of all sizes; the log is begun.
func TestOpenOfANewDisk(t *testing.T) {
	for sectors := 8; sectors <= 256; sectors += 2 {
		d := newDisk(t, sectors)
		has(t, opened(t, d))
		logs(t, d, "1 0 1 1", "\x00")
	}
}

// P401, P402: Whole bytes, byte by byte, of sets that are committed in any order.
func TestWholeBytes(t *testing.T) {
	for _, c := range []struct {
		l     []api.File
		whole string
	}{
		{nil, "\x00"},
		{files("a", ""), "\x01\x01a\x00\x00"},
		{files("a", "q"), "\x01\x01a\x01\x00q"},
		{files("b", "", "a", "x y"), "\x02\x01a\x03\x00x y\x01b\x00\x00"},
		{files("b", "1", "ab", "2", "a", "3", "a0", "4"), "\x04\x01a\x01\x003\x02a0\x01\x004\x02ab\x01\x002\x01b\x01\x001"},
		{files("abcdefghijkl", "\x00\xff\n"), "\x01\x0cabcdefghijkl\x03\x00\x00\xff\n"},
		{files("z", x(255)), "\x01\x01z\xff\x00" + x(255)},
		{files("z", x(256)), "\x01\x01z\x00\x01" + x(256)},
		{files("z", x(2000)), "\x01\x01z\xd0\x07" + x(2000)},
		{files("h", "", "g", "", "f", "", "e", "", "d", "", "c", "", "b", "", "a", ""), "\x08\x01a\x00\x00\x01b\x00\x00\x01c\x00\x00\x01d\x00\x00\x01e\x00\x00\x01f\x00\x00\x01g\x00\x00\x01h\x00\x00"},
	} {
		d := newDisk(t, 256)
		s := opened(t, d)
		if e := s.Commit(c.l); e != api.OK {
			t.Fatalf("Commit of %s: %v", told(c.l), e)
		}
		want := told(s.Files())
		s = opened(t, d)
		if _, recs := records(t, d); len(recs) != 1 || recs[0] != c.whole {
			t.Errorf("Whole bytes of %s: %q; want %q", told(c.l), recs, c.whole)
		}
		if got := told(s.Files()); got != want {
			t.Errorf("Files: %s; want %s", got, want)
		}
	}
}

// P401, P402: Change bytes, byte by byte, and the files behind each change.
func TestChangeBytes(t *testing.T) {
	d := newDisk(t, 256)
	s := opened(t, d)
	want := []string{"\x00"}
	for _, c := range []struct {
		l      []string
		change string
	}{
		{[]string{"b", "", "c", "two", "a", "one"}, "\x03\x01\x01a\x03\x00one\x01\x01b\x00\x00\x01\x01c\x03\x00two"},
		{[]string{"a", "one", "b", "", "c", "2"}, "\x01\x01\x01c\x01\x002"},
		{[]string{"a", "one", "c", "2"}, "\x01\x00\x01b"},
		{[]string{"a", "", "c", "2"}, "\x01\x01\x01a\x00\x00"},
		{[]string{"c", "2", "b", "new"}, "\x02\x00\x01a\x01\x01b\x03\x00new"},
		{[]string{"c", "new", "b", "2"}, "\x02\x01\x01b\x01\x002\x01\x01c\x03\x00new"},
		{[]string{"a1", "k", "a", "k", "b", "2", "c", x(2000)}, "\x03\x01\x01a\x01\x00k\x01\x02a1\x01\x00k\x01\x01c\xd0\x07" + x(2000)},
		{[]string{"abcdefghijkl", ""}, "\x05\x00\x01a\x00\x02a1\x01\x0cabcdefghijkl\x00\x00\x00\x01b\x00\x01c"},
		{nil, "\x01\x00\x0cabcdefghijkl"},
		{[]string{"b", "", "d", "", "f", "", "h", "", "j", "", "l", "", "n", "", "p", ""}, "\x08\x01\x01b\x00\x00\x01\x01d\x00\x00\x01\x01f\x00\x00\x01\x01h\x00\x00\x01\x01j\x00\x00\x01\x01l\x00\x00\x01\x01n\x00\x00\x01\x01p\x00\x00"},
		{[]string{"a", "", "c", "", "e", "", "g", "", "i", "", "k", "", "m", "", "o", ""}, "\x10\x01\x01a\x00\x00\x00\x01b\x01\x01c\x00\x00\x00\x01d\x01\x01e\x00\x00\x00\x01f\x01\x01g\x00\x00\x00\x01h\x01\x01i\x00\x00\x00\x01j\x01\x01k\x00\x00\x00\x01l\x01\x01m\x00\x00\x00\x01n\x01\x01o\x00\x00\x00\x01p"},
	} {
		commits(t, s, c.l...)
		want = append(want, c.change)
		if _, recs := records(t, d); fmt.Sprintf("%q", recs) != fmt.Sprintf("%q", want) {
			t.Fatalf("Change bytes to %s: %q; want %q", told(files(c.l...)), recs[len(recs)-1], c.change)
		}
		// Opened from a disk that holds the same log: the Store goes on writing to this one.
		again := newDisk(t, 256)
		write(t, again, want...)
		if got := told(opened(t, again).Files()); got != told(s.Files()) {
			t.Fatalf("Files: %s; want %s", got, told(s.Files()))
		}
	}
}

// P401: a first record that is Whole bytes of a sound set, and one that is not: neither it nor what is behind it counts then.
func TestFirstRecords(t *testing.T) {
	eight := "\x01a\x00\x00\x01b\x00\x00\x01c\x00\x00\x01d\x00\x00\x01e\x00\x00\x01f\x00\x00\x01g\x00\x00\x01h\x00\x00"
	for _, c := range []struct {
		what, rec string
		want      string
	}{
		{"no files", "\x00", ""},
		{"one", "\x01\x01a\x01\x00q", `"a":"q" `},
		{"eight", "\x08" + eight, `"a":"" "b":"" "c":"" "d":"" "e":"" "f":"" "g":"" "h":"" `},
		{"a name of twelve signs", "\x01\x0cabcdefghijkl\x00\x00", `"abcdefghijkl":"" `},
		{"the longest text", "\x01\x01a\xd0\x07" + x(2000), `"a":"` + x(2000) + `" `},

		{"nothing", "", ""},
		{"a byte behind none", "\x00\x00", ""},
		{"a byte behind one", "\x01\x01a\x01\x00q\x00", ""},
		{"a text behind none", "\x00\x01a\x01\x00q", ""},
		{"fewer than it tells", "\x02\x01a\x01\x00q", ""},
		{"more than it tells", "\x01\x01a\x01\x00q\x01b\x00\x00", ""},
		{"no length of the name", "\x01", ""},
		{"a name too short", "\x01\x02a", ""},
		{"no length of the text", "\x01\x01a", ""},
		{"half a length of the text", "\x01\x01a\x00", ""},
		{"a text too short", "\x01\x01a\x02\x00q", ""},
		{"a length of the text with its highest byte first", "\x01\x01a\x00\x01q", ""},
		{"names that fall", "\x02\x01b\x00\x00\x01a\x00\x00", ""},
		{"a name twice", "\x02\x01a\x00\x00\x01a\x00\x00", ""},
		{"a name twice with two texts", "\x02\x01a\x01\x00p\x01a\x01\x00q", ""},
		{"no name", "\x01\x00\x00\x00", ""},
		{"a name that begins with a digit", "\x01\x021a\x00\x00", ""},
		{"a word", "\x01\x04lock\x00\x00", ""},
		{"a great letter", "\x01\x01A\x00\x00", ""},
		{"a name of thirteen signs", "\x01\x0dabcdefghijklm\x00\x00", ""},
		{"a sound file and one that is not", "\x02\x01a\x00\x00\x02b_\x00\x00", ""},
		{"a text too long", "\x01\x01a\xd1\x07" + x(2001), ""},
		{"nine", "\x09" + eight + "\x01i\x00\x00", ""},
		{"many", "\xff" + eight, ""},
		{"Change bytes", "\x01\x01\x01a\x00\x00", ""},
		{"any text", "x", ""},
	} {
		t.Run(c.what, func(t *testing.T) {
			d := newDisk(t, 256)
			write(t, d, c.rec)
			if got := told(opened(t, d).Files()); got != c.want {
				t.Errorf("%q: %s; want %s", c.rec, got, c.want)
			}
			// Behind one that counts a change does; behind one that does not, nothing does, though it would be Change bytes.
			sound := c.want != "" || c.rec == "\x00"
			d = newDisk(t, 256)
			write(t, d, c.rec, "\x01\x01\x02zz\x01\x00y")
			want := c.want
			if sound && c.what != "eight" {
				want += `"zz":"y" `
			}
			if got := told(opened(t, d).Files()); got != want {
				t.Errorf("%q and a change: %s; want %s", c.rec, got, want)
			}
		})
	}
}

// P401: next records; one that is not Change bytes which make a sound set of what there is does not count, and nothing behind it does.
func TestNextRecords(t *testing.T) {
	// A sound set, and a change behind each record that counts only if that one does.
	const first = "\x02\x01a\x01\x00p\x01c\x00\x00"
	const was, last = `"a":"p" "c":"" `, "\x01\x01\x02zz\x01\x00y"
	more := "" // six more files, so that there are eight
	for _, n := range "defghi" {
		more += "\x01\x01" + string(n) + "\x00\x00"
	}
	for _, c := range []struct {
		what, rec string
		want      string // nothing: it does not count
	}{
		{"a new file", "\x01\x01\x01b\x01\x00q", `"a":"p" "b":"q" "c":"" `},
		{"a new file without text", "\x01\x01\x01b\x00\x00", `"a":"p" "b":"" "c":"" `},
		{"a new text", "\x01\x01\x01a\x02\x00pp", `"a":"pp" "c":"" `},
		{"no text any more", "\x01\x01\x01a\x00\x00", `"a":"" "c":"" `},
		{"a file gone", "\x01\x00\x01a", `"c":"" `},
		{"a file without text gone", "\x01\x00\x01c", `"a":"p" `},
		{"all three", "\x03\x00\x01a\x01\x01b\x01\x00q\x01\x01c\x01\x00r", `"b":"q" "c":"r" `},
		{"the longest text", "\x01\x01\x01a\xd0\x07" + x(2000), `"a":"` + x(2000) + `" "c":"" `},
		{"no changes", "\x00", was},

		{"nothing", "", ""},
		{"a byte behind none", "\x00\x00", ""},
		{"a byte behind one", "\x01\x00\x01a\x00", ""},
		{"fewer than it tells", "\x02\x00\x01a", ""},
		{"more than it tells", "\x01\x00\x01a\x00\x01c", ""},
		{"a third kind", "\x01\x02\x01a", ""},
		{"a third kind with a text", "\x01\x02\x01b\x01\x00q", ""},
		{"no kind", "\x01", ""},
		{"no name", "\x01\x00", ""},
		{"a name that ends early", "\x01\x00\x02a", ""},
		{"no text", "\x01\x01\x01b", ""},
		{"half a length of the text", "\x01\x01\x01b\x00", ""},
		{"a text that ends early", "\x01\x01\x01b\x02\x00q", ""},
		{"a file gone with a text", "\x01\x00\x01a\x00\x00", ""},
		{"a file gone that is not there", "\x01\x00\x01b", ""},
		{"no name gone", "\x01\x00\x00", ""},
		{"the text that it has", "\x01\x01\x01a\x01\x00p", ""},
		{"no text, as it has none", "\x01\x01\x01c\x00\x00", ""},
		{"a change and the text that it has", "\x02\x01\x01a\x01\x00q\x01\x01c\x00\x00", ""},
		{"names that fall", "\x02\x00\x01c\x00\x01a", ""},
		{"a name twice", "\x02\x01\x01b\x01\x00q\x01\x01b\x01\x00r", ""},
		{"a file gone twice", "\x02\x00\x01a\x00\x01a", ""},
		{"a file gone and there again", "\x02\x00\x01a\x01\x01a\x01\x00q", ""},
		{"a file there and gone again", "\x02\x01\x01b\x00\x00\x00\x01b", ""},
		{"an empty name", "\x01\x01\x00\x00\x00", ""},
		{"a word", "\x01\x01\x03var\x00\x00", ""},
		{"a name with a blank", "\x01\x01\x02b \x00\x00", ""},
		{"a name of thirteen signs", "\x01\x01\x0dabcdefghijklm\x00\x00", ""},
		{"a text too long", "\x01\x01\x01a\xd1\x07" + x(2001), ""},
		{"seven more", "\x07" + more + "\x01\x01j\x00\x00", ""},
		{"Whole bytes", first, ""},
		{"any text", "x", ""},
	} {
		t.Run(c.what, func(t *testing.T) {
			alone, behind := c.want, c.want+`"zz":"y" `
			if c.want == "" {
				alone, behind = was, was
			}
			d := newDisk(t, 256)
			write(t, d, first, c.rec)
			if got := told(opened(t, d).Files()); got != alone {
				t.Errorf("%q: %s; want %s", c.rec, got, alone)
			}
			d = newDisk(t, 256)
			write(t, d, first, c.rec, last)
			if got := told(opened(t, d).Files()); got != behind {
				t.Errorf("%q and a change: %s; want %s", c.rec, got, behind)
			}
		})
	}
	// Eight may be; and one more may be ahead of the one that goes.
	d := newDisk(t, 256)
	write(t, d, first, "\x06"+more, "\x02\x01\x01b\x00\x00\x00\x01i")
	has(t, opened(t, d), "a", "p", "b", "", "c", "", "d", "", "e", "", "f", "", "g", "", "h", "")
}

// P401: Open begins the log anew in the other half, with the whole of what it found and nothing else.
func TestOpenBeginsAnew(t *testing.T) {
	d := newDisk(t, 12)
	write(t, d, "\x01\x01a\x01\x00q", "\x01\x01\x01b\x00\x00", "\x01\x00\x01a", "not one")
	ops := d.Ops()
	has(t, opened(t, d), "b", "")
	logs(t, d, "2 1 1 1", "\x01\x01b\x00\x00")
	if d.Ops() != ops+2 {
		t.Errorf("Open did %d Writes and Flushes", d.Ops()-ops)
	}
	has(t, opened(t, d), "b", "")
	logs(t, d, "3 0 1 1", "\x01\x01b\x00\x00")
	d.Crash(nil)
	logs(t, d, "3 0 1 1", "\x01\x01b\x00\x00")

	// Of a log that is none's, too.
	d = newDisk(t, 8)
	write(t, d, "any")
	has(t, opened(t, d))
	logs(t, d, "2 1 1 1", "\x00")
	// And behind Parts that are of no record.
	putPart(t, d, 3, 70)
	has(t, opened(t, d))
	logs(t, d, "71 0 1 1", "\x00")
}

// P401, P4: wal's errors of Open, beside no Store.
func TestErrorsOfOpen(t *testing.T) {
	d := newDisk(t, 8)
	commits(t, opened(t, d), "a", x(100))
	kill(d)
	if s, e := Open(d); s != nil || e != api.ErrDead {
		t.Errorf("Open of a dead disk: %v, %v", s, e)
	}
	// Three Parts and a flush.
	for fuse := range 4 {
		d.Fuse(-1)
		d.Fuse(fuse)
		if s, e := Open(d); s != nil || e != api.ErrDead {
			t.Errorf("Open with a fuse of %d: %v, %v", fuse, s, e)
		}
		d.Crash(nil)
	}
	d.Fuse(4)
	has(t, opened(t, d), "a", x(100))

	// P5: there is no generation left.
	d = newDisk(t, 8)
	commits(t, opened(t, d), "a", "q")
	putPart(t, d, 7, topGen)
	before := picture(t, d)
	for range 2 {
		if s, e := Open(d); s != nil || e != api.ErrFull {
			t.Errorf("Open behind the last generation: %v, %v", s, e)
		}
	}
	if picture(t, d) != before {
		t.Error("Open that was ErrFull changed the disk")
	}
}

// refuses tells that a Commit is that error, and has changed nothing (P5).
func refuses(t *testing.T, d *disk.Disk, s *Store, want api.Errno, l []api.File) {
	t.Helper()
	before, was := picture(t, d), told(s.Files())
	if e := s.Commit(l); e != want {
		t.Errorf("Commit of %.100s: %v; want %v", told(l), e, want)
	}
	if got := told(s.Files()); got != was || picture(t, d) != before {
		t.Errorf("Commit of %.100s: %v, and changed something: %s", told(l), want, got)
	}
}

// P401, P402: sets that are not sound, wherever in the list the fault is.
func TestCommitOfWhatIsNotSound(t *testing.T) {
	d := newDisk(t, 256)
	s := opened(t, d)
	commits(t, s, "k", "v")
	bad := []string{"", "1", "1a", "A", "aB", "a ", " a", "a_", "a-b", "a.go", "a\x00", "\x00", "a{", "a`", "{a", "`a", "a/", "a:", "/a", ":a", "é", "aé", "a\xff", "abcdefghijklm", x(256 + 5), x(1 << 20),
		"var", "lock", "func", "use", "set", "unlock", "call", "spawn", "if", "else", "loop"}
	for _, name := range bad {
		refuses(t, d, s, api.ErrArg, files(name, ""))
		refuses(t, d, s, api.ErrArg, files("a", "", name, "", "b", ""))
		refuses(t, d, s, api.ErrArg, files("k", "v", name, "v"))
	}
	for _, n := range []int{2001, 2002, 1<<16 - 1, 1 << 16, 1<<16 + 1, 1<<16 + 2000, 1 << 20} {
		refuses(t, d, s, api.ErrArg, files("a", x(n)))
		refuses(t, d, s, api.ErrArg, files("a", "", "b", x(n)))
	}
	refuses(t, d, s, api.ErrArg, files("a", "", "a", ""))
	refuses(t, d, s, api.ErrArg, files("a", "p", "b", "", "a", "q"))
	refuses(t, d, s, api.ErrArg, files("k", "v", "k", "v"))
	var nine []api.File
	for i := range 9 {
		nine = append(nine, api.File{Name: fmt.Sprint("f", i)})
	}
	refuses(t, d, s, api.ErrArg, nine)
	refuses(t, d, s, api.ErrArg, make([]api.File, 1<<20))
	// Names that are nearly words, or at an edge, may be.
	commits(t, s, "a", "", "z", "", "a0", "", "z9", "", "abcdefghijkl", "", "vars", "", "loc", "", "main", "")
	commits(t, s, "lock1", "", "elseif", "", "unlocks", "", "i", "", "f", "", "spaw", "", "nil", "", "loo", "")
	if e := s.Commit(nine[:8]); e != api.OK {
		t.Errorf("Commit of eight files: %v", e)
	}
}

// P402: ErrFull, at the last byte that fits, whatever the log holds; and behind ErrArg (P6).
func TestCommitThatIsFull(t *testing.T) {
	// A half's bytes, less its length (4), the count, and a file's head (1 + 1 + 2).
	for _, c := range []struct{ sectors, most int }{{8, 4*52 - 4 - 5}, {10, 5*52 - 4 - 5}, {76, 38*52 - 4 - 5}} {
		d := newDisk(t, c.sectors)
		s := opened(t, d)
		for range 3 {
			refuses(t, d, s, api.ErrFull, files("a", x(c.most+1)))
			refuses(t, d, s, api.ErrFull, files("a", x(c.most-3), "b", ""))
			refuses(t, d, s, api.ErrFull, files("a", x(2000)))
			refuses(t, d, s, api.ErrArg, files("a", x(c.most+1), "b", "", "1", ""))
			refuses(t, d, s, api.ErrArg, files("a", x(2001)))
			commits(t, s, "a", x(c.most))
			has(t, s, "a", x(c.most))
			refuses(t, d, s, api.ErrFull, files("a", x(c.most+1)))
			commits(t, s, "a", x(c.most-4), "b", "")
			has(t, s, "a", x(c.most-4), "b", "")
			s = opened(t, d)
			has(t, s, "a", x(c.most-4), "b", "")
		}
		// On a dead disk these are told ahead of its error, and what there is needs no disk.
		kill(d)
		for want, l := range map[api.Errno][]api.File{api.ErrArg: files("1", ""), api.ErrFull: files("a", x(c.most+1)), api.OK: files("b", "", "a", x(c.most-4))} {
			if e := s.Commit(l); e != want {
				t.Errorf("Commit on a dead disk: %v; want %v", e, want)
			}
		}
		if e := s.Commit(files("b", "")); e != api.ErrDead {
			t.Errorf("Commit on a dead disk: %v", e)
		}
	}
	// The greatest disk has 6652 bytes in a half: three of the longest texts, and a fourth one of 631 bytes.
	d := newDisk(t, 256)
	s := opened(t, d)
	three := []string{"a", x(2000), "b", x(2000), "c", x(2000)}
	refuses(t, d, s, api.ErrFull, files(append(three, "d", x(6652-1-3*2004-4+1))...))
	commits(t, s, append(three, "d", x(6652-1-3*2004-4))...)
	// All eight with the longest texts fit in no half, and in no Cut (P302).
	var eight []api.File
	for i := range 8 {
		eight = append(eight, api.File{Name: fmt.Sprint("f", i), Text: x(2000)})
	}
	refuses(t, d, s, api.ErrFull, eight)
}

// P402: what there is already is OK, in any order, and asks no disk.
func TestCommitOfWhatThereIs(t *testing.T) {
	d := newDisk(t, 16)
	s := opened(t, d)
	refuses(t, d, s, api.OK, nil)
	refuses(t, d, s, api.OK, []api.File{})
	commits(t, s, "b", "2", "a", "1", "c", "")
	refuses(t, d, s, api.OK, files("a", "1", "b", "2", "c", ""))
	refuses(t, d, s, api.OK, files("c", "", "b", "2", "a", "1"))
	s = opened(t, d)
	refuses(t, d, s, api.OK, files("c", "", "a", "1", "b", "2"))
	// These are others: each differs by one thing.
	for _, l := range [][]string{{"a", "1", "b", "2"}, {"a", "1", "b", "2", "d", ""}, {"a", "2", "b", "1", "d", ""}, {"a", "2", "b", "1", "d", "", "e", ""}} {
		ops := d.Ops()
		commits(t, s, l...)
		has(t, s, l...)
		if d.Ops() == ops {
			t.Errorf("Commit of %s wrote nothing", told(files(l...)))
		}
	}
}

// P402: a change behind the others as long as there is room for it, then the whole in the other half.
func TestAppendsThenFresh(t *testing.T) {
	d := newDisk(t, 8)
	s := opened(t, d)
	logs(t, d, "1 0 1 1", "\x00")
	commits(t, s, "a", "1")
	logs(t, d, "1 0 2 2", "\x00", "\x01\x01\x01a\x01\x001")
	commits(t, s, "a", "1", "b", x(60))
	change := "\x01\x01\x01b\x3c\x00" + x(60)
	logs(t, d, "1 0 4 3", "\x00", "\x01\x01\x01a\x01\x001", change)
	commits(t, s, "b", x(60))
	whole := "\x01\x01b\x3c\x00" + x(60)
	logs(t, d, "2 1 2 1", whole)
	commits(t, s, "b", x(60), "c", "")
	logs(t, d, "2 1 3 2", whole, "\x01\x01\x01c\x00\x00")
	// Two Parts do not fit behind these, though there is one sector.
	commits(t, s, "b", x(60), "c", x(60))
	logs(t, d, "3 0 3 1", "\x02\x01b\x3c\x00"+x(60)+"\x01c\x3c\x00"+x(60))
	has(t, s, "b", x(60), "c", x(60))
	// Change bytes are longer by one byte a file than Whole bytes: what just fits as a whole never fits as a change.
	commits(t, s, "a", x(199))
	logs(t, d, "4 1 4 1", "\x01\x01a\xc7\x00"+x(199))
	commits(t, s)
	logs(t, d, "5 0 1 1", "\x00")
	has(t, s)
}

// P402, P5: where no generation is left, changes go on as long as they fit; then it is ErrFull, and the files are as they were.
func TestCommitBehindTheLastGeneration(t *testing.T) {
	d := newDisk(t, 8)
	putPart(t, d, 7, topGen-1)
	s := opened(t, d)
	logs(t, d, "4294967295 0 1 1", "\x00")
	commits(t, s, "a", "1")
	commits(t, s, "a", "2")
	commits(t, s, "a", "3")
	refuses(t, d, s, api.ErrFull, files("a", "4"))
	refuses(t, d, s, api.ErrFull, nil)
	refuses(t, d, s, api.OK, files("a", "3"))
	refuses(t, d, s, api.ErrArg, files("1", "4"))
	has(t, s, "a", "3")
}

// P402: the disk's error, at each of the writes and at the flush, of a change and of a new beginning.
func TestErrorsOfTheDisk(t *testing.T) {
	for fuse := range 3 {
		for _, ahead := range []int{0, 3} {
			d := newDisk(t, 8)
			s := opened(t, d)
			for i := range ahead {
				commits(t, s, "a", fmt.Sprint(i))
			}
			d.Fuse(fuse)
			if e := s.Commit(files("b", x(50))); e != api.ErrDead {
				t.Errorf("Commit behind %d others with a fuse of %d: %v", ahead, fuse, e)
			}
		}
	}
}

// P1: calls end, and none panics, behind a disk's error, on a Store and on a disk that nobody made, and whatever is handed in.
func TestCallsEnd(t *testing.T) {
	lists := [][]api.File{nil, {}, files("a", ""), files("a", x(100)), files("a", x(2000)), files("a", x(2001)), files("", ""), files("\xff\xfe", "\x00"), files("a", "", "a", ""), make([]api.File, 300), files(x(300), x(70000))}
	all := func(s *Store) {
		for _, l := range lists {
			s.Commit(l)
			s.Files()
		}
	}
	for fuse := range 12 {
		d := newDisk(t, 8)
		s := opened(t, d)
		d.Fuse(fuse)
		all(s)
		all(s)
		d.Fuse(-1)
		all(s)
		d.Crash([]byte{0x55})
		all(s)
		opened(t, d)
	}
	all(&Store{})
	if s, e := Open(&disk.Disk{}); s != nil || e == api.OK {
		t.Errorf("Open of a disk that nobody made: %v, %v", s, e)
	}
	// Any bytes are a disk.
	z := &dice{1}
	for range 50 {
		d := newDisk(t, 8)
		for n := range 8 {
			b := bytes.Repeat([]byte{byte(z.of(256))}, 64)
			d.Write(n, b)
		}
		has(t, opened(t, d))
	}
}
