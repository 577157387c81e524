package store

import (
	"fmt"
	"slices"
	"strings"
	"testing"

	"deadbolt/api"
)

// anyFiles throws a list of files, most often a sound one, with texts below so many bytes.
func anyFiles(z *dice, text int) []api.File {
	names := []string{"a", "b", "b0", "b00", "ba", "c", "main", "abcdefghijkl", "d", "e", "z9"}
	var l []api.File
	for range z.of(8) {
		i := z.of(len(names))
		l = append(l, api.File{Name: names[i], Text: strings.Repeat("t", z.of(1+z.of(text)))})
		names = slices.Delete(names, i, i+1)
	}
	switch z.of(30) {
	case 0:
		l = append(l, api.File{Name: "lock"})
	case 1:
		l = append(append(l, l...), api.File{Name: "x"}, api.File{Name: "x"})
	}
	return l
}

// model is a Store told the plain way: lists alone, gone along from their beginnings.
type model struct {
	l    []api.File // by names
	size int        // sectors of a half
	next int
	gen  int
	half int
}

func find(l []api.File, name string) (text string, is bool) {
	for _, f := range l {
		if f.Name == name {
			return f.Text, true
		}
	}
	return "", false
}

func isSound(l []api.File) bool {
	words := strings.Fields("var lock func use set unlock call spawn if else loop")
	for i, f := range l {
		if _, twice := find(l[:i], f.Name); twice || len(f.Text) > 2000 || len(f.Name) > 12 || slices.Contains(words, f.Name) {
			return false
		}
		rest := strings.Trim(f.Name, "abcdefghijklmnopqrstuvwxyz0123456789")
		if rest != "" || f.Name == "" || strings.ContainsAny(f.Name[:1], "0123456789") {
			return false
		}
	}
	return len(l) <= 8
}

func sorted(l []api.File) []api.File {
	l = slices.Clone(l)
	slices.SortFunc(l, func(a, b api.File) int { return strings.Compare(a.Name, b.Name) })
	return l
}

func laid(f api.File) string {
	n := len(f.Text)
	return string([]byte{byte(len(f.Name))}) + f.Name + string([]byte{byte(n), byte(n / 256)}) + f.Text
}

func whole(l []api.File) string {
	s := string([]byte{byte(len(l))})
	for _, f := range sorted(l) {
		s += laid(f)
	}
	return s
}

func change(was, now []api.File) string {
	var all []string
	var names []api.File
	for _, f := range now {
		if text, is := find(was, f.Name); !is || text != f.Text {
			names = append(names, f)
		}
	}
	for _, f := range was {
		if _, is := find(now, f.Name); !is {
			names = append(names, f)
		}
	}
	for _, f := range sorted(names) {
		if _, is := find(now, f.Name); is {
			all = append(all, "\x01"+laid(f))
		} else {
			all = append(all, string([]byte{0, byte(len(f.Name))})+f.Name)
		}
	}
	return string([]byte{byte(len(all))}) + strings.Join(all, "")
}

func parts(s string) int { return (len(s) + 4 + 51) / 52 }

// commit tells what a Commit must answer, and makes the model what it must be then.
func (m *model) commit(l []api.File) api.Errno {
	l = sorted(l)
	if !isSound(l) {
		return api.ErrArg
	}
	if parts(whole(l)) > m.size {
		return api.ErrFull
	}
	if slices.Equal(l, m.l) {
		return api.OK
	}
	if n := parts(change(m.l, l)); n <= m.size-m.next {
		m.next += n
	} else {
		m.begin(l)
	}
	m.l = l
	return api.OK
}

// begin makes the model's log new.
func (m *model) begin(l []api.File) {
	if m.gen > 0 {
		m.half = 1 - m.half
	}
	m.gen++
	m.next = parts(whole(l))
}

// P401, P402: Commits and Opens, one behind another, answer what the model does, and leave its log.
func TestCallsAgainstTheModel(t *testing.T) {
	z := &dice{2}
	count := map[api.Errno]int{}
	for range 300 {
		d := newDisk(t, 8+2*z.of(12))
		m := &model{size: d.Size() / 2}
		s := opened(t, d)
		m.begin(nil)
		for range 30 {
			if z.of(8) == 0 {
				if z.of(2) == 0 {
					// All that was answered lasts.
					d.Crash(nil)
				}
				s = opened(t, d)
				m.begin(m.l)
			} else {
				l := anyFiles(z, 120)
				want := m.commit(l)
				if e := s.Commit(l); e != want {
					t.Fatalf("Commit of %s: %v; want %v", told(l), e, want)
				}
				count[want]++
			}
			if got := told(s.Files()); got != told(m.l) {
				t.Fatalf("Files: %s; want %s", got, told(m.l))
			}
			state, _ := records(t, d)
			if want := fmt.Sprint(m.gen, " ", m.half, " ", m.next, " "); !strings.HasPrefix(state, want) {
				t.Fatalf("the log at %s; want %s", state, want)
			}
		}
	}
	for _, e := range []api.Errno{api.OK, api.ErrArg, api.ErrFull} {
		if count[e] < 100 {
			t.Errorf("%d Commits that are %v: the dice are too even", count[e], e)
		}
	}
}

// spoilt is a record with a byte changed, left out, doubled, or its end cut off.
func spoilt(z *dice, s string) string {
	if s == "" {
		return "\x01"
	}
	i := z.of(len(s))
	switch z.of(5) {
	case 0:
		return s[:i] + string([]byte{byte(z.of(256))}) + s[i+1:]
	case 1:
		return s[:i] + string([]byte{s[i] + 1 - byte(2*z.of(2))}) + s[i+1:]
	case 2:
		return s[:i] + s[i+1:]
	case 3:
		return s[:i] + s[i:i+1] + s[i:]
	}
	return s[:i]
}

// scan goes along a record, byte by byte, and tells off each thing that may not be.
type scan struct {
	s   string
	bad bool
}

func (c *scan) bytes(n int) string {
	if c.bad || n > len(c.s) {
		c.bad = true
		return ""
	}
	b := c.s[:n]
	c.s = c.s[n:]
	return b
}

func (c *scan) byte() int {
	if b := c.bytes(1); b != "" {
		return int(b[0])
	}
	return 0
}

func (c *scan) name() string { return c.bytes(c.byte()) }

func (c *scan) text() string {
	low := c.byte()
	return c.bytes(low + 256*c.byte())
}

// scanWhole tells the files of Whole bytes; false, if they are none.
func scanWhole(s string) ([]api.File, bool) {
	c := &scan{s: s}
	var l []api.File
	for range c.byte() {
		name := c.name()
		if len(l) > 0 && name <= l[len(l)-1].Name {
			return nil, false
		}
		l = append(l, api.File{Name: name, Text: c.text()})
	}
	if c.bad || c.s != "" || !isSound(l) {
		return nil, false
	}
	return l, true
}

// scanChange tells the files that Change bytes make; false, if they are none.
func scanChange(was []api.File, s string) ([]api.File, bool) {
	c := &scan{s: s}
	now, last := slices.Clone(was), ""
	for i := range c.byte() {
		kind, name := c.byte(), c.name()
		old, is := find(was, name)
		if i > 0 && name <= last || kind > 1 || kind == 0 && !is {
			return nil, false
		}
		last = name
		now = slices.DeleteFunc(now, func(f api.File) bool { return f.Name == name })
		if kind == 0 {
			continue
		}
		text := c.text()
		if is && text == old {
			return nil, false
		}
		now = append(now, api.File{Name: name, Text: text})
	}
	if c.bad || c.s != "" || !isSound(now) {
		return nil, false
	}
	return sorted(now), true
}

// P401: of records that are spoilt, those count that a plain scan lets through, up to the first one that it does not.
func TestSpoiltRecords(t *testing.T) {
	z := &dice{4}
	ended := map[int]int{}
	for range 6000 {
		recs := []string{whole(nil)}
		var was []api.File
		for i := range 4 {
			l := anyFiles(z, 12)
			if !isSound(l) {
				continue
			}
			if l = sorted(l); i == 0 {
				recs[0] = whole(l)
			} else {
				recs = append(recs, change(was, l))
			}
			was = l
		}
		i := z.of(len(recs))
		recs[i] = spoilt(z, recs[i])
		d := newDisk(t, 64)
		write(t, d, recs...)

		want, is := scanWhole(recs[0])
		n := 0
		for is {
			n++
			if n == len(recs) {
				break
			}
			var next []api.File
			if next, is = scanChange(want, recs[n]); is {
				want = next
			}
		}
		ended[n]++
		if got := opened(t, d).Files(); told(got) != told(want) {
			t.Fatalf("%q: %s; want %s", recs, told(got), told(want))
		}
	}
	for n := range 5 {
		if ended[n] < 200 {
			t.Errorf("%d times %d records counted: the dice are too even", ended[n], n)
		}
	}
}
