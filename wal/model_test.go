package wal

import (
	"fmt"
	"testing"

	"deadbolt/api"
	"deadbolt/disk"
	"deadbolt/sect"
)

// model is a log told the plain way: from a picture of the disk, by trying each number of Parts at each place.
type model struct {
	sectors              [][]byte
	gen, half, next, rec int
	greatest             int
	recs                 []string
}

// at tells the record of that Gen and Rec (or of any Gen, if it is 0) whose Parts lie from a sector on and end ahead of another one.
func (m *model) at(from, end, gen, rec int) (s string, of, is int) {
	for to := from + 1; to <= end; to++ {
		var l []sect.Part
		for _, b := range m.sectors[from:to] {
			if p, is := sect.Parse(b); is {
				l = append(l, p)
			}
		}
		b, joins := sect.Join(l)
		if joins && len(l) == to-from && l[0].Rec == rec && (gen == 0 || l[0].Gen == gen) {
			return string(b), to - from, l[0].Gen
		}
	}
	return "", 0, 0
}

func modelOf(t *testing.T, d *disk.Disk) *model {
	t.Helper()
	m := &model{}
	for n := range d.Size() {
		b, e := d.Read(n)
		if e != api.OK {
			t.Fatalf("Read(%d): %v", n, e)
		}
		m.sectors = append(m.sectors, b)
		if p, is := sect.Parse(b); is && p.Gen > m.greatest {
			m.greatest = p.Gen
		}
	}
	size := d.Size() / 2
	_, _, first := m.at(0, size, 0, 0)
	_, _, second := m.at(size, 2*size, 0, 0)
	if first == 0 && second == 0 {
		return m
	}
	m.gen = first
	if second > first {
		m.gen, m.half = second, 1
	}
	for {
		s, of, _ := m.at(m.half*size+m.next, (m.half+1)*size, m.gen, m.rec)
		if of == 0 {
			return m
		}
		m.recs = append(m.recs, s)
		m.next += of
		m.rec++
	}
}

func (m *model) state() string { return fmt.Sprint(m.gen, m.half, m.next, m.rec) }

// litter lays Parts of few generations and records at any places: whole records, pieces of them, and bytes that are none.
func litter(t *testing.T, d *disk.Disk, x *dice) {
	t.Helper()
	size := d.Size()
	for range x.of(12) {
		at := []int{0, size / 2, x.of(size)}[x.of(3)]
		gen := 1 + x.of(3)
		for rec := range 1 + x.of(4) {
			if x.of(8) == 0 {
				rec++
			}
			for _, p := range cut(t, gen, rec, long(1+x.of(3))) {
				if at == size {
					return
				}
				if b, _ := sect.Bytes(p); x.of(20) > 0 {
					d.Write(at, b)
				}
				at++
			}
		}
	}
}

// P301: Open tells what the words tell, whatever lies on the disk.
func TestOpenAgainstTheModel(t *testing.T) {
	x := &dice{5}
	most := 0
	for range 4000 {
		d := newDisk(t, 8+2*x.of(8))
		litter(t, d, x)
		m := modelOf(t, d)
		l, recs := opened(t, d)
		isAt(t, l, m.state())
		carries(t, recs, m.recs...)
		most = max(most, len(recs))
		freshens(t, l, "x")
		if gen, _, _, _ := l.State(); gen != m.greatest+1 {
			t.Fatalf("Fresh: generation %d; want %d", gen, m.greatest+1)
		}
	}
	if most < 4 {
		t.Errorf("at most %d records: the litter is too thin", most)
	}
}

// said are the answers of one call.
type said struct {
	is bool
	e  api.Errno
}

// P302, P3: Append and Fresh, one behind another, leave what a log is told to be by its words, and Open finds the same.
func TestCallsAgainstTheModel(t *testing.T) {
	x := &dice{6}
	for i := range 400 {
		d := newDisk(t, 8+2*x.of(6))
		littered := i%2 == 1
		if littered {
			litter(t, d, x)
			d.Flush()
		}
		size := d.Size() / 2
		m := modelOf(t, d)
		l, _ := opened(t, d)
		for range 25 {
			parts := 1 + x.of(size+2)
			s := long(parts)
			before := m.state()
			var got, want said
			if x.of(4) > 0 {
				got.is, got.e = l.Append([]byte(s))
				want.is = m.gen > 0 && m.next+parts <= size
				if want.is {
					m.next, m.rec, m.recs = m.next+parts, m.rec+1, append(m.recs, s)
				}
			} else {
				got.e = l.Fresh([]byte(s))
				if parts > size {
					want.e = api.ErrFull
				} else {
					if m.gen > 0 {
						m.half = 1 - m.half
					}
					m.greatest++
					m.gen, m.next, m.rec, m.recs = m.greatest, parts, 1, []string{s}
				}
			}
			if got != want {
				t.Fatalf("%d Parts at %s: %v; want %v", parts, before, got, want)
			}
			isAt(t, l, m.state())
			found(t, d, m, littered)
			if x.of(5) == 0 {
				// All that was answered lasts: a crash in which every unlasting sector is lost changes nothing.
				d.Crash(nil)
				found(t, d, m, littered)
			}
		}
	}
}

// found opens the disk beside the log that is being used: it holds that log's records.
func found(t *testing.T, d *disk.Disk, m *model, littered bool) {
	t.Helper()
	again, recs := opened(t, d)
	now := modelOf(t, d)
	isAt(t, again, now.state())
	carries(t, recs, now.recs...)
	// What lay behind by chance may be of the log's generation, and its next record: a log opened anew goes on along it.
	if !littered || len(recs) < len(m.recs) {
		isAt(t, again, m.state())
	}
	carries(t, recs[:len(m.recs)], m.recs...)
}
