package wal

import (
	"fmt"
	"testing"

	"deadbolt/api"
	"deadbolt/disk"
)

// texts are records, as a text.
func texts(recs [][]byte) string { return fmt.Sprintf("%q", recs) }

// ways calls f with a new disk for each way in which its power may go: behind so many Writes and Flushes more, with these of the unlasting sectors kept.
func ways(t *testing.T, lay func(d *disk.Disk) *Log, f func(d *disk.Disk, l *Log, crash func())) {
	t.Helper()
	for fuse := range 7 {
		for pick := range 64 {
			d := newDisk(t, 12)
			l := lay(d)
			d.Fuse(fuse)
			f(d, l, func() { d.Crash([]byte{byte(pick)}) })
		}
	}
}

// laid are logs to crash: none, one in each half, and ones with sectors of older generations behind them.
func laid(t *testing.T) map[string]func(d *disk.Disk) *Log {
	t.Helper()
	log := func(f func(l *Log)) func(d *disk.Disk) *Log {
		return func(d *disk.Disk) *Log {
			l, _ := opened(t, d)
			f(l)
			return l
		}
	}
	return map[string]func(d *disk.Disk) *Log{
		"none":                   log(func(l *Log) {}),
		"one in the first half":  log(func(l *Log) { freshens(t, l, "a") }),
		"one in the second half": log(func(l *Log) { freshens(t, l, "a"); freshens(t, l, "b") }),
		"one with records":       log(func(l *Log) { freshens(t, l, "a"); appends(t, l, "b"); appends(t, l, long(2)) }),
		"one over older ones": log(func(l *Log) {
			freshens(t, l, long(1))
			appends(t, l, long(4))
			freshens(t, l, "b")
			appends(t, l, long(5))
			freshens(t, l, "c")
		}),
	}
}

// P303: a crash behind an Append or Fresh that was OK leaves all of it; behind one that was not, all of it or nothing.
func TestCrashes(t *testing.T) {
	do := map[string]func(l *Log, s string) (fresh bool, e api.Errno){
		"Append": func(l *Log, s string) (bool, api.Errno) {
			is, e := l.Append([]byte(s))
			if e == api.OK && !is {
				return true, l.Fresh([]byte(s))
			}
			return false, e
		},
		"Fresh": func(l *Log, s string) (bool, api.Errno) { return true, l.Fresh([]byte(s)) },
	}
	for where, lay := range laid(t) {
		for what, f := range do {
			for parts := 1; parts <= 5; parts++ {
				s := long(parts)
				ways(t, lay, func(d *disk.Disk, l *Log, crash func()) {
					_, old := opened(t, d)
					fresh, e := f(l, s)
					crash()
					_, recs := opened(t, d)
					whole := append(append([][]byte{}, old...), []byte(s))
					if fresh {
						whole = [][]byte{[]byte(s)}
					}
					if got := texts(recs); got != texts(whole) && (e == api.OK || got != texts(old)) {
						t.Fatalf("%s, %s of %d Parts, %v: %s", where, what, parts, e, got)
					}
				})
			}
		}
	}
}

// P303: one crash behind another one, the log begun anew between them; what the first one left does not mix with what is written next.
func TestCrashesInARow(t *testing.T) {
	for where, lay := range laid(t) {
		ways(t, lay, func(d *disk.Disk, l *Log, crash func()) {
			l.Fresh([]byte(long(4)))
			crash()
			for second := range 6 {
				l, old := opened(t, d)
				d.Fuse(second)
				s := string((&dice{99}).bytes(4*52 - 4))
				e := l.Fresh([]byte(s))
				crash()
				_, recs := opened(t, d)
				if got := texts(recs); got != texts([][]byte{[]byte(s)}) && (e == api.OK || got != texts(old)) {
					t.Fatalf("%s, %v: %s", where, e, got)
				}
			}
		})
	}
}

// P303: an Append behind a crash and a Fresh does not find the Parts of the one that was under way.
func TestAppendBehindACrash(t *testing.T) {
	for fuse := range 7 {
		for pick := range 64 {
			d := newDisk(t, 12)
			l, _ := opened(t, d)
			freshens(t, l, "a")
			d.Fuse(fuse)
			l.Append([]byte(long(5)))
			d.Crash([]byte{byte(pick)})
			l, _ = opened(t, d)
			freshens(t, l, "b")
			freshens(t, l, "c")
			d.Fuse(3)
			s := string((&dice{98}).bytes(5*52 - 4))
			if _, e := l.Append([]byte(s)); e != api.ErrDead {
				t.Fatalf("Append: %v", e)
			}
			d.Crash([]byte{0xff})
			_, recs := opened(t, d)
			carries(t, recs, "c")
		}
	}
}
