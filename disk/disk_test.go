package disk

import (
	"bytes"
	"math"
	"testing"

	"deadbolt/api"
)

// filled is a sector that differs from place to place, so that a shifted or shortened one is told apart.
func filled(c byte) []byte {
	b := make([]byte, api.Sector)
	for i := range b {
		b[i] = c + byte(i)
	}
	return b
}

func noughts() []byte { return make([]byte, api.Sector) }

func made(t *testing.T, sectors int) *Disk {
	t.Helper()
	d, e := New(sectors)
	if e != api.OK || d == nil {
		t.Fatalf("New(%d): %v, %v", sectors, d, e)
	}
	return d
}

func write(t *testing.T, d *Disk, n int, b []byte) {
	t.Helper()
	if e := d.Write(n, b); e != api.OK {
		t.Fatalf("Write(%d): %v", n, e)
	}
}

func flush(t *testing.T, d *Disk) {
	t.Helper()
	if e := d.Flush(); e != api.OK {
		t.Fatalf("Flush: %v", e)
	}
}

func holds(t *testing.T, d *Disk, n int, want []byte) {
	t.Helper()
	if b, e := d.Read(n); e != api.OK || !bytes.Equal(b, want) {
		t.Fatalf("Read(%d): %v, %v; want %v", n, b, e, want)
	}
}

// isDead asks each call that a dead disk refuses; none of them revives it.
func isDead(t *testing.T, d *Disk) {
	t.Helper()
	ops := d.Ops()
	for _, n := range []int{0, -1, d.Size()} {
		if b, e := d.Read(n); e != api.ErrDead || len(b) != 0 {
			t.Fatalf("Read(%d) of a dead disk: %v, %v", n, b, e)
		}
		if e := d.Write(n, filled(1)); e != api.ErrDead {
			t.Fatalf("Write(%d) to a dead disk: %v", n, e)
		}
	}
	if e := d.Write(0, nil); e != api.ErrDead {
		t.Fatalf("Write of no bytes to a dead disk: %v", e)
	}
	if e := d.Flush(); e != api.ErrDead {
		t.Fatalf("Flush of a dead disk: %v", e)
	}
	if d.Ops() != ops {
		t.Fatalf("Ops of a dead disk went from %d to %d", ops, d.Ops())
	}
}

// killed is a disk that died with sector 1 flushed and sector 2 not.
func killed(t *testing.T) *Disk {
	t.Helper()
	d := made(t, 8)
	write(t, d, 1, filled(1))
	flush(t, d)
	write(t, d, 2, filled(2))
	d.Fuse(0)
	if e := d.Flush(); e != api.ErrDead {
		t.Fatalf("Flush behind the fuse: %v", e)
	}
	return d
}

// P101, P4, P9
func TestNewTakesEvenNumbersOfItsBounds(t *testing.T) {
	for n := -10; n <= 600; n++ {
		want := api.ErrArg
		if n >= 8 && n <= 256 && n%2 == 0 {
			want = api.OK
		}
		d, e := New(n)
		if e != want || (d != nil) != (e == api.OK) {
			t.Fatalf("New(%d): %v, %v; want %v", n, d, e, want)
		}
		if d != nil && (d.Size() != n || d.Ops() != 0) {
			t.Fatalf("New(%d): size %d, ops %d", n, d.Size(), d.Ops())
		}
	}
	for _, n := range []int{math.MinInt, math.MinInt + 1, math.MaxInt, math.MaxInt - 1, 1<<32 + 8} {
		if d, e := New(n); e != api.ErrArg || d != nil {
			t.Errorf("New(%d): %v, %v", n, d, e)
		}
	}
}

// P101
func TestNewSectorsAreNoughts(t *testing.T) {
	for _, size := range []int{8, 256} {
		d := made(t, size)
		for n := range size {
			holds(t, d, n, noughts())
		}
	}
}

// P101: each sector is its own, up to the last one.
func TestReadTellsWhatWasLastWritten(t *testing.T) {
	for _, size := range []int{8, 256} {
		d := made(t, size)
		for n := range size {
			write(t, d, n, filled(99))
			write(t, d, n, filled(byte(n)))
		}
		for n := range size {
			holds(t, d, n, filled(byte(n)))
		}
		flush(t, d)
		for n := range size {
			holds(t, d, n, filled(byte(n)))
		}
		write(t, d, 0, filled(77))
		holds(t, d, 0, filled(77))
		holds(t, d, size-1, filled(byte(size-1)))
	}
}

// P101, P4, P5, P9
func TestNoSuchSector(t *testing.T) {
	for _, size := range []int{8, 256} {
		d := made(t, size)
		for _, n := range []int{-1, size, size + 1, math.MinInt, math.MaxInt} {
			if b, e := d.Read(n); e != api.ErrArg || len(b) != 0 {
				t.Errorf("Read(%d) of %d: %v, %v", n, size, b, e)
			}
			if e := d.Write(n, filled(1)); e != api.ErrArg {
				t.Errorf("Write(%d) of %d: %v", n, size, e)
			}
		}
		if d.Ops() != 0 || d.Size() != size {
			t.Errorf("ops %d, size %d", d.Ops(), d.Size())
		}
	}
}

// P101, P5: a refused Write leaves the sector, and its not being lasting, as they were.
func TestWriteTakesWholeSectorsAlone(t *testing.T) {
	d := made(t, 8)
	write(t, d, 3, filled(3))
	flush(t, d)
	for _, size := range []int{0, 1, 63, 65, 128} {
		if e := d.Write(3, make([]byte, size)); e != api.ErrArg {
			t.Errorf("Write of %d bytes: %v", size, e)
		}
	}
	if e := d.Write(3, nil); e != api.ErrArg {
		t.Errorf("Write of nil: %v", e)
	}
	if d.Ops() != 2 {
		t.Errorf("ops %d", d.Ops())
	}
	holds(t, d, 3, filled(3))
	write(t, d, 4, filled(4))
	// Had a refused Write made sector 3 fresh, it would be the first here.
	d.Crash([]byte{1})
	holds(t, d, 3, filled(3))
	holds(t, d, 4, filled(4))
}

// P101: Reads, refused calls, Fuse and Crash do not count.
func TestOpsCountsWhatWasOK(t *testing.T) {
	d := made(t, 8)
	step := func(do func(), want int) {
		t.Helper()
		do()
		if d.Ops() != want {
			t.Fatalf("ops %d, want %d", d.Ops(), want)
		}
	}
	step(func() { d.Flush() }, 1)
	step(func() { d.Write(0, filled(1)) }, 2)
	step(func() { d.Write(0, filled(1)) }, 3)
	step(func() { d.Write(8, filled(1)) }, 3)
	step(func() { d.Write(0, filled(1)[:63]) }, 3)
	step(func() { d.Read(0) }, 3)
	step(func() { d.Fuse(1) }, 3)
	step(func() { d.Flush() }, 4)
	step(func() { d.Flush() }, 4)
	step(func() { d.Write(0, filled(1)) }, 4)
	step(func() { d.Crash([]byte{255}) }, 4)
	step(func() { d.Flush() }, 5)
	step(func() { d.Fuse(-1) }, 5)
	step(func() { d.Write(7, filled(1)) }, 6)
}

// P102
func TestFuseLetsSoManyThrough(t *testing.T) {
	for n := range 6 {
		for kinds := range 1 << n {
			d := made(t, 8)
			d.Fuse(n)
			for i := range n {
				if kinds>>i&1 == 1 {
					flush(t, d)
				} else {
					write(t, d, i, filled(byte(i)))
				}
			}
			holds(t, d, 7, noughts())
			if e := d.Write(7, filled(7)); e != api.ErrDead {
				t.Fatalf("Write behind a fuse of %d: %v", n, e)
			}
			isDead(t, d)
			if d.Ops() != n {
				t.Fatalf("ops %d behind a fuse of %d", d.Ops(), n)
			}
		}
	}
}

// P102: a fuse that has burnt down kills by the next Write or Flush, not before.
func TestFuseOfNought(t *testing.T) {
	for _, end := range []func(d *Disk) api.Errno{
		func(d *Disk) api.Errno { return d.Flush() },
		func(d *Disk) api.Errno { return d.Write(0, filled(9)) },
	} {
		d := made(t, 8)
		write(t, d, 0, filled(1))
		d.Fuse(0)
		holds(t, d, 0, filled(1))
		if e := end(d); e != api.ErrDead {
			t.Fatalf("behind a fuse of 0: %v", e)
		}
		isDead(t, d)
	}
}

// P102, P6: what is ErrArg burns no fuse, and does not kill where the fuse has burnt down.
func TestFuseDoesNotCountErrArg(t *testing.T) {
	d := made(t, 8)
	refused := func() {
		t.Helper()
		for _, n := range []int{-1, 8} {
			if e := d.Write(n, filled(1)); e != api.ErrArg {
				t.Fatalf("Write(%d): %v", n, e)
			}
		}
		if e := d.Write(0, filled(1)[:63]); e != api.ErrArg {
			t.Fatalf("Write of 63 bytes: %v", e)
		}
		if _, e := d.Read(8); e != api.ErrArg {
			t.Fatalf("Read(8): %v", e)
		}
		holds(t, d, 5, noughts())
	}
	d.Fuse(2)
	refused()
	write(t, d, 0, filled(1))
	refused()
	flush(t, d)
	refused()
	if e := d.Flush(); e != api.ErrDead {
		t.Fatalf("Flush: %v", e)
	}
	isDead(t, d)
}

// P102: a later fuse takes the place of the one before.
func TestFuseIsReplaced(t *testing.T) {
	d := made(t, 8)
	d.Fuse(0)
	d.Fuse(2)
	flush(t, d)
	flush(t, d)
	d.Fuse(1)
	flush(t, d)
	if e := d.Flush(); e != api.ErrDead {
		t.Fatalf("Flush: %v", e)
	}
	isDead(t, d)
	d = made(t, 8)
	d.Fuse(math.MaxInt)
	for range 1000 {
		flush(t, d)
	}
}

// P102
func TestFuseBelowNoughtEndsAFuse(t *testing.T) {
	for _, n := range []int{-1, -2, math.MinInt} {
		d := made(t, 8)
		d.Fuse(1)
		d.Fuse(n)
		for range 1000 {
			flush(t, d)
		}
	}
}

// P102: a dead disk stays dead under a fuse of 0 or more, and lives under one below 0, with what was written still not lasting.
func TestFuseOfADeadDisk(t *testing.T) {
	d := killed(t)
	for _, n := range []int{0, 1, 5, math.MaxInt} {
		d.Fuse(n)
		isDead(t, d)
	}
	d.Fuse(-7)
	holds(t, d, 1, filled(1))
	holds(t, d, 2, filled(2))
	write(t, d, 3, filled(3))
	d.Crash([]byte{2})
	holds(t, d, 1, filled(1))
	holds(t, d, 2, noughts())
	holds(t, d, 3, filled(3))
}

// P5, P102: the Write that the disk died of is not written.
func TestDyingWriteIsNotWritten(t *testing.T) {
	d := made(t, 8)
	write(t, d, 3, filled(3))
	d.Fuse(0)
	for _, n := range []int{3, 2} {
		if e := d.Write(n, filled(9)); e != api.ErrDead {
			t.Fatalf("Write(%d): %v", n, e)
		}
	}
	d.Fuse(-1)
	holds(t, d, 2, noughts())
	holds(t, d, 3, filled(3))
	// Sector 2 does not count among the fresh ones: 3 is the first.
	d.Crash([]byte{1})
	holds(t, d, 2, noughts())
	holds(t, d, 3, filled(3))
}

// P5, P102: the Flush that the disk died of makes nothing last.
func TestDyingFlushMakesNothingLast(t *testing.T) {
	d := killed(t)
	d.Crash(nil)
	holds(t, d, 1, filled(1))
	holds(t, d, 2, noughts())
}

// P102: a Crash picks on a dead disk too, and takes away death and fuse.
func TestCrashRevives(t *testing.T) {
	d := killed(t)
	d.Crash([]byte{1})
	holds(t, d, 1, filled(1))
	holds(t, d, 2, filled(2))
	for range 100 {
		flush(t, d)
	}
	d.Fuse(0)
	d.Crash(nil)
	for range 100 {
		flush(t, d)
	}
}

// P102: all sectors are lasting behind a Crash, kept ones too, and none is picked again.
func TestCrashMakesAllLast(t *testing.T) {
	d := made(t, 8)
	write(t, d, 1, filled(1))
	write(t, d, 2, filled(2))
	d.Crash([]byte{1})
	write(t, d, 6, filled(6))
	d.Crash([]byte{1})
	holds(t, d, 1, filled(1))
	holds(t, d, 2, noughts())
	holds(t, d, 6, filled(6))
	d.Crash(nil)
	holds(t, d, 1, filled(1))
	holds(t, d, 2, noughts())
	holds(t, d, 6, filled(6))
}

// P102: the order is the sectors', not that of the Writes, and a sector counts once.
func TestCrashGoesBySectors(t *testing.T) {
	for pick := range 8 {
		d := made(t, 8)
		for n := range 8 {
			write(t, d, n, filled(100))
		}
		flush(t, d)
		for _, n := range []int{7, 2, 5, 2, 7} {
			write(t, d, n, filled(50))
			write(t, d, n, filled(byte(n)))
		}
		d.Crash([]byte{byte(pick)})
		for n := range 8 {
			want := filled(100)
			for i, fresh := range []int{2, 5, 7} {
				if fresh == n && pick>>i&1 == 1 {
					want = filled(byte(n))
				}
			}
			holds(t, d, n, want)
		}
	}
}

// P102: a sector that was written with what it holds already is a written one.
func TestCrashCountsAWriteOfTheSame(t *testing.T) {
	d := made(t, 8)
	write(t, d, 0, noughts())
	write(t, d, 1, filled(1))
	d.Crash([]byte{1})
	holds(t, d, 1, noughts())
	write(t, d, 0, noughts())
	write(t, d, 1, filled(1))
	d.Crash([]byte{2})
	holds(t, d, 1, filled(1))
}

// P102: bits are counted from each byte's lowest one on, bytes from the first one on; behind the end none is set.
func TestCrashPicksByBits(t *testing.T) {
	long := bytes.Repeat([]byte{0xa5, 0x3c, 0x81}, 20)
	for _, size := range []int{0, 1, 2, 31, 32, 33, 60} {
		pick := long[:size]
		d := made(t, 256)
		for n := range 256 {
			write(t, d, n, filled(byte(n)|1))
		}
		d.Crash(pick)
		for n := range 256 {
			want := noughts()
			if n/8 < size && pick[n/8]&(1<<(n%8)) != 0 {
				want = filled(byte(n) | 1)
			}
			holds(t, d, n, want)
		}
	}
}

// P102: a pick's spare room is behind its end.
func TestCrashDoesNotSeeSpareRoom(t *testing.T) {
	d := made(t, 8)
	write(t, d, 0, filled(1))
	d.Crash([]byte{255, 255}[:0])
	holds(t, d, 0, noughts())
}

// P103
func TestWhatWasFlushedStays(t *testing.T) {
	picks := [][]byte{nil, {}, {0}, {255}, {0x55, 0xaa}, bytes.Repeat([]byte{255}, 64)}
	d := made(t, 16)
	for n := range 16 {
		write(t, d, n, filled(byte(n+1)))
	}
	flush(t, d)
	for _, pick := range picks {
		for range 3 {
			d.Fuse(0)
			d.Flush()
			d.Crash(pick)
			for n := range 16 {
				holds(t, d, n, filled(byte(n+1)))
			}
		}
	}
	// What is written over it and not picked does not touch it.
	for _, pick := range [][]byte{nil, {0}, {0, 0, 0}} {
		for n := range 16 {
			write(t, d, n, filled(200))
		}
		d.Crash(pick)
		for n := range 16 {
			holds(t, d, n, filled(byte(n+1)))
		}
	}
}

// P2
func TestNothingHandedInIsKeptOrChanged(t *testing.T) {
	d := made(t, 8)
	room := append(filled(5), filled(6)...)
	before := bytes.Clone(room)
	write(t, d, 3, room[:api.Sector])
	flush(t, d)
	d.Write(3, room)
	write(t, d, 4, room[:api.Sector])
	pick := []byte{1, 170, 85}
	d.Crash(pick[:1])
	if !bytes.Equal(room, before) || !bytes.Equal(pick, []byte{1, 170, 85}) {
		t.Fatal("what was handed in was changed")
	}
	clear(room)
	clear(pick)
	holds(t, d, 3, filled(5))
	holds(t, d, 4, filled(5))
}

// P2
func TestAnAnswerIsNewMemory(t *testing.T) {
	for _, flushed := range []bool{false, true} {
		d := made(t, 8)
		write(t, d, 3, filled(5))
		if flushed {
			flush(t, d)
		}
		a, _ := d.Read(3)
		b, _ := d.Read(3)
		a = a[:cap(a)]
		clear(a)
		if !bytes.Equal(b, filled(5)) {
			t.Fatal("two answers share memory")
		}
		for n := range 8 {
			want := noughts()
			if n == 3 {
				want = filled(5)
			}
			holds(t, d, n, want)
		}
		d.Crash([]byte{1})
		holds(t, d, 3, filled(5))
		write(t, d, 3, filled(8))
		if !bytes.Equal(b, filled(5)) {
			t.Fatal("an answer changed behind a Write")
		}
	}
}

// P7
func TestTwoDisksSideBySide(t *testing.T) {
	a, b := made(t, 8), made(t, 8)
	if a == b {
		t.Fatal("one disk, not two")
	}
	write(t, a, 1, filled(1))
	write(t, b, 1, filled(2))
	write(t, b, 2, filled(3))
	holds(t, a, 1, filled(1))
	holds(t, a, 2, noughts())
	flush(t, a)
	b.Crash(nil)
	holds(t, a, 1, filled(1))
	holds(t, b, 1, noughts())
	holds(t, b, 2, noughts())
	a.Fuse(0)
	flush(t, b)
	a.Flush()
	isDead(t, a)
	holds(t, b, 1, noughts())
	flush(t, b)
	b.Fuse(-1)
	b.Crash(nil)
	isDead(t, a)
	if a.Ops() != 2 || b.Ops() != 4 {
		t.Fatalf("ops %d, %d", a.Ops(), b.Ops())
	}
}

// P1: even a disk that New did not make does not panic.
func TestADiskOfNoSectors(t *testing.T) {
	d := &Disk{}
	for range 2 {
		d.Read(0)
		d.Write(0, filled(1))
		d.Flush()
		d.Crash([]byte{255})
		d.Fuse(-1)
	}
}
