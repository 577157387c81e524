package store

import (
	"fmt"
	"testing"

	"deadbolt/api"
	"deadbolt/disk"
)

// picks are which of the sectors that do not last a crash keeps: all choices of six, and all of the sectors.
func picks() [][]byte {
	var l [][]byte
	for n := range 64 {
		l = append(l, []byte{byte(n)})
	}
	return append(l, []byte{0xff, 0xff}, nil)
}

// before are Stores to crash, on disks of two halves of 6 sectors: new ones, ones with room behind their records and with none, in either half.
func before(t *testing.T) map[string]func(d *disk.Disk) *Store {
	t.Helper()
	row := func(opens int, sets ...[]string) func(d *disk.Disk) *Store {
		return func(d *disk.Disk) *Store {
			s := opened(t, d)
			for range opens {
				s = opened(t, d)
			}
			for _, l := range sets {
				commits(t, s, l...)
			}
			return s
		}
	}
	return map[string]func(d *disk.Disk) *Store{
		"a new one":                row(0),
		"a new one, second half":   row(1),
		"one change":               row(0, []string{"a", "1"}),
		"one change, second half":  row(1, []string{"a", "1"}),
		"no room":                  row(0, []string{"a", x(90)}, []string{"a", x(91)}),
		"no room, second half":     row(1, []string{"a", x(90)}, []string{"a", x(91)}),
		"over older records":       row(0, []string{"a", x(200)}, []string{"b", x(150)}, []string{"c", "1"}),
		"a half full of one":       row(0, []string{"a", x(300)}),
		"a half full of one, then": row(1, []string{"a", x(300)}, []string{"a", "1"}),
	}
}

// after are what is committed then: of one Part and of many, as a change and as a whole.
func after() [][]string {
	return [][]string{nil, {"b", "2"}, {"a", "1", "b", "2"}, {"a", x(60)}, {"a", x(100), "c", x(20)}, {"b", x(70), "c", x(70), "d", x(60)}, {"e", x(300)}}
}

// isOneOf holds files against those that may be.
func isOneOf(t *testing.T, what string, got []api.File, may ...string) {
	t.Helper()
	for _, m := range may {
		if told(got) == m {
			return
		}
	}
	t.Fatalf("%s: %s; want one of %q", what, told(got), may)
}

// P403, T5: a crash in a Commit, or behind it: the files are the old ones or the new ones; behind one that was OK, the new ones.
func TestCrashes(t *testing.T) {
	for where, lay := range before(t) {
		for _, l := range after() {
			for fuse := range 9 {
				for _, pick := range picks() {
					d := newDisk(t, 12)
					s := lay(d)
					was, will := told(s.Files()), told(files(l...))
					d.Fuse(fuse)
					e := s.Commit(files(l...))
					d.Crash(pick)
					what := fmt.Sprintf("%s, %s, fuse %d, pick %v, %v", where, will, fuse, pick, e)
					s = opened(t, d)
					if e == api.OK {
						isOneOf(t, what, s.Files(), will)
					} else {
						isOneOf(t, what, s.Files(), was, will)
					}
				}
			}
		}
	}
}

// opsOf tells how many Writes and Flushes a Commit needs.
func opsOf(t *testing.T, lay func(d *disk.Disk) *Store, l []api.File) int {
	t.Helper()
	d := newDisk(t, 12)
	s := lay(d)
	ops := d.Ops()
	if e := s.Commit(l); e != api.OK {
		t.Fatalf("Commit of %s: %v", told(l), e)
	}
	return d.Ops() - ops
}

// P403: a Commit that lacks nothing but its Flush: with all of its sectors kept it is there, with none it is not.
func TestCommitsUnderWay(t *testing.T) {
	next := files("b", x(70), "c", x(70))
	for where, lay := range before(t) {
		for _, kept := range []bool{false, true} {
			d := newDisk(t, 12)
			s := lay(d)
			want, pick := s.Files(), []byte(nil)
			if kept {
				want, pick = next, []byte{0xff}
			}
			d.Fuse(opsOf(t, lay, next) - 1)
			if e := s.Commit(next); e != api.ErrDead {
				t.Fatalf("%s: %v", where, e)
			}
			d.Crash(pick)
			isOneOf(t, where, opened(t, d).Files(), told(want))
		}
	}
}

// P403: crashes in Open, one behind another, lose nothing and mix nothing.
func TestCrashesInOpen(t *testing.T) {
	for where, lay := range before(t) {
		for _, l := range after() {
			for first := range 4 {
				for _, pick := range picks() {
					d := newDisk(t, 12)
					s := lay(d)
					was, will := told(s.Files()), told(files(l...))
					d.Fuse(first)
					e := s.Commit(files(l...))
					d.Crash(pick)
					may := []string{will}
					if e != api.OK {
						may = append(may, was)
					}
					what := fmt.Sprintf("%s, %s, fuse %d, pick %v, %v", where, will, first, pick, e)
					for fuse := range 8 {
						d.Fuse(fuse)
						s, e := Open(d)
						if e == api.OK {
							isOneOf(t, what, s.Files(), may...)
							// What was found once stays.
							may = []string{told(s.Files())}
						}
						d.Crash(pick)
					}
					isOneOf(t, what, opened(t, d).Files(), may...)
				}
			}
		}
	}
}

// P403: what a crash left of a Commit does not join with the next one's Parts, wherever that one's crash cuts it off.
func TestCrashesInARow(t *testing.T) {
	one, other := files("a", x(140)), files("a", "y"+x(138)+"z")
	for first := range 6 {
		for _, pick := range picks() {
			for second := range 6 {
				for _, keep := range [][]byte{{1}, {2}, {3}, {5}, {6}, {0xff}, nil} {
					d := newDisk(t, 12)
					s := opened(t, d)
					d.Fuse(first)
					s.Commit(one)
					d.Crash(pick)
					s = opened(t, d)
					was := told(s.Files())
					d.Fuse(second)
					e := s.Commit(other)
					d.Crash(keep)
					may := []string{told(other)}
					if e != api.OK {
						may = append(may, was)
					}
					isOneOf(t, fmt.Sprint(first, pick, second, keep, e), opened(t, d).Files(), may...)
				}
			}
		}
	}
}

// P403: a long life on disks of all sizes: Commits, crashes in them and in Opens.
func TestLivesWithCrashes(t *testing.T) {
	z := &dice{7}
	found := map[bool]int{}
	for range 300 {
		d := newDisk(t, 8+2*z.of(20))
		s := opened(t, d)
		was := ""
		for range 25 {
			l := anyFiles(z, 80)
			if z.of(2) == 0 {
				d.Fuse(z.of(10))
			}
			e := s.Commit(l)
			if e == api.OK {
				was = told(sorted(l))
			}
			if e != api.ErrDead && z.of(4) > 0 {
				d.Fuse(-1)
				continue
			}
			may := []string{was}
			if e == api.ErrDead {
				may = append(may, told(sorted(l)))
			}
			for e = api.ErrDead; e != api.OK; {
				pick := []byte{byte(z.of(256)), byte(z.of(256)), byte(z.of(256))}
				if z.of(2) == 0 {
					pick = []byte{0xff, 0xff, 0xff}
				}
				d.Crash(pick)
				if z.of(2) == 0 {
					d.Fuse(z.of(10))
				}
				s, e = Open(d)
			}
			d.Fuse(-1)
			isOneOf(t, "a life", s.Files(), may...)
			found[told(s.Files()) == was]++
			was = told(s.Files())
		}
	}
	if found[true] < 100 || found[false] < 100 {
		t.Errorf("found %v: the dice are too even", found)
	}
}
