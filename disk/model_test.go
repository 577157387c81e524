package disk

import (
	"bytes"
	"testing"

	"deadbolt/api"
)

// dice throws the same numbers in every run.
type dice struct{ n uint64 }

func (d *dice) of(k int) int {
	d.n = d.n*6364136223846793005 + 1442695040888963407
	return int(d.n>>33) % k
}

func (d *dice) bytes(n int) []byte {
	b := make([]byte, n)
	for i := range b {
		b[i] = byte(d.of(256))
	}
	return b
}

// model is a disk told the plain way: two whole pictures, and which sectors were written between them.
type model struct {
	lasting, now [256][64]byte
	written      [256]bool
	size, ops    int
	fused, dead  bool
	left         int
}

func (m *model) spend() api.Errno {
	if m.fused && m.left == 0 {
		m.dead = true
		return api.ErrDead
	}
	m.left--
	m.ops++
	return api.OK
}

func (m *model) write(n int, b []byte) api.Errno {
	switch {
	case m.dead:
		return api.ErrDead
	case n < 0 || n >= m.size || len(b) != 64:
		return api.ErrArg
	}
	if e := m.spend(); e != api.OK {
		return e
	}
	m.now[n], m.written[n] = [64]byte(b), true
	return api.OK
}

func (m *model) flush() api.Errno {
	if m.dead {
		return api.ErrDead
	}
	if e := m.spend(); e != api.OK {
		return e
	}
	m.lasting, m.written = m.now, [256]bool{}
	return api.OK
}

func (m *model) fuse(n int) {
	m.fused, m.left = n >= 0, n
	if n < 0 {
		m.dead = false
	}
}

func (m *model) crash(pick []byte) {
	i := 0
	for n, w := range m.written {
		if !w {
			continue
		}
		if i/8 < len(pick) && pick[i/8]&(1<<(i%8)) != 0 {
			m.lasting[n] = m.now[n]
		}
		i++
	}
	m.now, m.written = m.lasting, [256]bool{}
	m.fused, m.dead = false, false
}

func (m *model) read(n int) ([]byte, api.Errno) {
	switch {
	case m.dead:
		return nil, api.ErrDead
	case n < 0 || n >= m.size:
		return nil, api.ErrArg
	}
	return m.now[n][:], api.OK
}

// step does one thing, thrown by the dice, to the disk and to its model, and answers what both said.
func step(d *Disk, m *model, x *dice) (got, want api.Errno) {
	switch x.of(12) {
	case 0, 1:
		return d.Flush(), m.flush()
	case 2:
		pick := x.bytes(x.of(m.size/8 + 3))
		d.Crash(pick)
		m.crash(pick)
	case 3:
		n := x.of(9) - 2
		d.Fuse(n)
		m.fuse(n)
	case 4:
		b := x.bytes(63 + x.of(3))
		n := x.of(m.size+4) - 2
		return d.Write(n, b), m.write(n, b)
	default:
		b := x.bytes(64)
		n := x.of(m.size)
		return d.Write(n, b), m.write(n, b)
	}
	return api.OK, api.OK
}

// P3, P101 to P103: whatever is done, in whatever order, the disk answers what its model answers.
func TestAgainstTheModel(t *testing.T) {
	x := &dice{17}
	for _, size := range []int{8, 10, 16, 18, 64, 256} {
		for range 40 {
			d, m := made(t, size), &model{size: size}
			for i := range 120 {
				if got, want := step(d, m, x); got != want {
					t.Fatalf("size %d, step %d: %v, want %v", size, i, got, want)
				}
				compare(t, d, m)
			}
		}
	}
}

func compare(t *testing.T, d *Disk, m *model) {
	t.Helper()
	if d.Ops() != m.ops || d.Size() != m.size {
		t.Fatalf("ops %d, size %d; want %d, %d", d.Ops(), d.Size(), m.ops, m.size)
	}
	for n := -1; n <= m.size; n++ {
		got, e := d.Read(n)
		want, f := m.read(n)
		if e != f || !bytes.Equal(got, want) {
			t.Fatalf("Read(%d): %v, %v; want %v, %v", n, got, e, want, f)
		}
	}
}
