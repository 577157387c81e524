// Package disk: a disk. See doc/01-disk.md.
package disk

import (
	"deadbolt/api"
)

type sector [api.Sector]byte

// endless is a fuse that never burns down.
const endless = -1

// Disk is a row of sectors that forgets, when its power goes, what was not flushed.
type Disk struct {
	lasting []sector
	fresh   map[int]sector // what was written and is not lasting yet
	fuse    int            // how many Writes and Flushes more are OK; or endless
	dead    bool
	ops     int
}

// New makes a disk of so many sectors, all of them noughts.
func New(sectors int) (*Disk, api.Errno) {
	if sectors < api.MinSectors || sectors > api.MaxSectors || sectors%2 != 0 {
		return nil, api.ErrArg
	}
	return &Disk{
		lasting: make([]sector, sectors),
		fresh:   map[int]sector{},
		fuse:    endless,
	}, api.OK
}

// Size tells how many sectors there are.
func (d *Disk) Size() int { return len(d.lasting) }

// Read tells what was last written to a sector, lasting or not.
func (d *Disk) Read(n int) ([]byte, api.Errno) {
	if d.dead {
		return nil, api.ErrDead
	}
	if !d.has(n) {
		return nil, api.ErrArg
	}
	s, written := d.fresh[n]
	if !written {
		s = d.lasting[n]
	}
	b := make([]byte, api.Sector)
	copy(b, s[:])
	return b, api.OK
}

// Write makes a sector b; that does not last before the next Flush.
func (d *Disk) Write(n int, b []byte) api.Errno {
	if d.dead {
		return api.ErrDead
	}
	// Ahead of the fuse: what is refused here does not burn it.
	if !d.has(n) || len(b) != api.Sector {
		return api.ErrArg
	}
	if !d.burn() {
		return api.ErrDead
	}
	var s sector
	copy(s[:], b)
	d.fresh[n] = s
	return api.OK
}

// Flush makes all that was written last.
func (d *Disk) Flush() api.Errno {
	if d.dead || !d.burn() {
		return api.ErrDead
	}
	for n := range d.lasting {
		d.settle(n, true)
	}
	return api.OK
}

// Fuse lets the disk die behind n more Writes and Flushes; below 0 it lives, and goes on without end.
func (d *Disk) Fuse(n int) {
	if n < 0 {
		d.revive()
		return
	}
	d.fuse = n
}

// Crash takes the power away and gives it back: pick says which of the sectors that are not lasting are kept.
func (d *Disk) Crash(pick []byte) {
	i := 0
	for n := range d.lasting {
		if d.settle(n, picked(pick, i)) {
			i++
		}
	}
	d.revive()
}

// Ops tells how many Writes and Flushes were OK.
func (d *Disk) Ops() int { return d.ops }

func (d *Disk) has(n int) bool { return n >= 0 && n < len(d.lasting) }

// burn counts a Write or Flush that is about to be made; where the fuse has burnt down, the disk dies of it instead.
func (d *Disk) burn() bool {
	if d.fuse == 0 {
		d.dead = true
		return false
	}
	if d.fuse != endless {
		d.fuse--
	}
	d.ops++
	return true
}

// settle ends a sector's not being lasting, by keeping what was written or by forgetting it; false, if nothing was written.
func (d *Disk) settle(n int, keep bool) bool {
	s, written := d.fresh[n]
	if !written {
		return false
	}
	if keep {
		d.lasting[n] = s
	}
	delete(d.fresh, n)
	return true
}

func (d *Disk) revive() {
	d.dead = false
	d.fuse = endless
}

// picked tells whether bit i of pick is set; behind its end none is.
func picked(pick []byte, i int) bool {
	return i/8 < len(pick) && pick[i/8]>>(i%8)&1 == 1
}
