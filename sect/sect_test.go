package sect

import (
	"bytes"
	"encoding/binary"
	"hash/crc32"
	"math"
	"reflect"
	"slices"
	"testing"

	"deadbolt/api"
)

// dice throws the same numbers in every run.
type dice struct{ n uint64 }

func (d *dice) of(k int) int {
	d.n = d.n*6364136223846793005 + 1442695040888963407
	return int(d.n>>33) % k
}

func (d *dice) bytes(n int) []byte {
	b := make([]byte, n)
	for i := range b {
		b[i] = byte(d.of(256))
	}
	return b
}

// longest is how many bytes 255 Parts have room for.
const longest = 255*52 - 4

// sectorOf lays any numbers, those too that may not be, with the sum that belongs to them.
func sectorOf(gen uint32, rec uint16, n, of byte, data []byte) []byte {
	b := binary.LittleEndian.AppendUint32(nil, gen)
	b = binary.LittleEndian.AppendUint16(b, rec)
	b = append(b, n, of)
	sum := crc32.ChecksumIEEE(append(bytes.Clone(b), data...))
	b = binary.LittleEndian.AppendUint32(b, sum)
	return append(b, data...)
}

// wholePart is one of ordinary numbers.
func wholePart() Part {
	return Part{Gen: 0x01020304, Rec: 0x0506, N: 7, Of: 9, Data: (&dice{1}).bytes(52)}
}

func refused(t *testing.T, what string, l []Part) {
	t.Helper()
	if b, is := Join(l); is || len(b) != 0 {
		t.Errorf("Join of %s: %v, %v", what, b, is)
	}
}

func noPart(t *testing.T, what string, b []byte) {
	t.Helper()
	if p, is := Parse(b); is || !reflect.DeepEqual(p, Part{}) {
		t.Errorf("Parse of %s: %+v, %v", what, p, is)
	}
}

func cut(t *testing.T, gen, rec int, b []byte) []Part {
	t.Helper()
	l, e := Cut(gen, rec, b)
	if e != api.OK {
		t.Fatalf("Cut(%d, %d) of %d bytes: %v", gen, rec, len(b), e)
	}
	return l
}

// deep is a copy that shares no memory.
func deep(l []Part) []Part {
	l = slices.Clone(l)
	for i := range l {
		l[i].Data = bytes.Clone(l[i].Data)
	}
	return l
}

// P201: Crc.
func TestCrc(t *testing.T) {
	for s, want := range map[string]uint32{
		"":          0,
		"a":         0xe8b7be43,
		"123456789": 0xcbf43926,
		"\x00":      0xd202ef8d,
		"\xff":      0xff000000,
		"\x80":      0x3fba6cad,
	} {
		if got := Crc([]byte(s)); got != want {
			t.Errorf("Crc(%q) = %#x; want %#x", s, got, want)
		}
	}
	if Crc(nil) != 0 {
		t.Error("Crc of nil is not 0")
	}
	d := &dice{2}
	for range 2000 {
		b := d.bytes(d.of(200))
		if got, want := Crc(b), crc32.ChecksumIEEE(b); got != want {
			t.Fatalf("Crc(%v) = %#x; want %#x", b, got, want)
		}
	}
}

// P201: the bytes of Parts, at the edges of each number and between, and what they are parsed to.
func TestBytesOfParts(t *testing.T) {
	d := &dice{3}
	for _, gen := range []int{1, 2, 255, 256, 0x01020304, 1<<31 - 1, 1 << 31, 1<<32 - 1} {
		for _, rec := range []int{0, 1, 255, 256, 0x0506, 65535} {
			for _, ofs := range [][2]int{{0, 1}, {0, 2}, {1, 2}, {7, 9}, {0, 255}, {127, 255}, {253, 254}, {254, 255}} {
				p := Part{Gen: gen, Rec: rec, N: ofs[0], Of: ofs[1], Data: d.bytes(52)}
				want := sectorOf(uint32(gen), uint16(rec), byte(p.N), byte(p.Of), p.Data)
				b, e := Bytes(p)
				if e != api.OK || !bytes.Equal(b, want) {
					t.Fatalf("Bytes(%+v): %v, %v; want %v", p, b, e, want)
				}
				back, is := Parse(b)
				if !is || !reflect.DeepEqual(back, p) {
					t.Fatalf("Parse(Bytes(%+v)): %+v, %v", p, back, is)
				}
			}
		}
	}
}

// P201: data of noughts alone, or of ones alone, is as good as any.
func TestBytesOfPlainData(t *testing.T) {
	for _, c := range []byte{0, 255} {
		p := Part{Gen: 1, Of: 1, Data: bytes.Repeat([]byte{c}, 52)}
		b, e := Bytes(p)
		if e != api.OK || !bytes.Equal(b, sectorOf(1, 0, 0, 1, p.Data)) {
			t.Errorf("Bytes(%+v): %v, %v", p, b, e)
		}
		if back, is := Parse(b); !is || !reflect.DeepEqual(back, p) {
			t.Errorf("Parse(Bytes(%+v)): %+v, %v", p, back, is)
		}
	}
}

// wrongParts are Parts that may not be, each for one reason.
func wrongParts() map[string]Part {
	l := map[string]Part{}
	with := func(what string, change func(p *Part)) {
		p := wholePart()
		change(&p)
		l[what] = p
	}
	with("Gen 0", func(p *Part) { p.Gen = 0 })
	with("Gen -1", func(p *Part) { p.Gen = -1 })
	with("Gen lowest", func(p *Part) { p.Gen = math.MinInt })
	with("Gen 2^32", func(p *Part) { p.Gen = 1 << 32 })
	with("Gen 2^32 + 1", func(p *Part) { p.Gen = 1<<32 + 1 })
	with("Gen highest", func(p *Part) { p.Gen = math.MaxInt })
	with("Rec -1", func(p *Part) { p.Rec = -1 })
	with("Rec lowest", func(p *Part) { p.Rec = math.MinInt })
	with("Rec 65536", func(p *Part) { p.Rec = 65536 })
	with("Rec highest", func(p *Part) { p.Rec = math.MaxInt })
	with("Of 0", func(p *Part) { p.N, p.Of = 0, 0 })
	with("Of 0, N below", func(p *Part) { p.N, p.Of = -1, 0 })
	with("Of -1", func(p *Part) { p.N, p.Of = 0, -1 })
	with("Of lowest", func(p *Part) { p.N, p.Of = 0, math.MinInt })
	with("Of 256", func(p *Part) { p.Of = 256 })
	with("Of 257", func(p *Part) { p.N, p.Of = 0, 257 })
	with("Of highest", func(p *Part) { p.Of = math.MaxInt })
	with("N = Of", func(p *Part) { p.N = 9 })
	with("N beyond Of", func(p *Part) { p.N = 10 })
	with("N = Of = 255", func(p *Part) { p.N, p.Of = 255, 255 })
	with("N -1", func(p *Part) { p.N = -1 })
	with("N lowest", func(p *Part) { p.N = math.MinInt })
	with("N 256", func(p *Part) { p.N = 256 })
	with("N highest", func(p *Part) { p.N = math.MaxInt })
	with("no Data", func(p *Part) { p.Data = nil })
	with("Data of 51 bytes", func(p *Part) { p.Data = p.Data[:51] })
	with("Data of 53 bytes", func(p *Part) { p.Data = append(bytes.Clone(p.Data), 0) })
	with("Data of 104 bytes", func(p *Part) { p.Data = make([]byte, 104) })
	with("all wrong", func(p *Part) { *p = Part{Gen: -1, Rec: -1, N: -1, Of: -1} })
	with("nothing", func(p *Part) { *p = Part{} })
	return l
}

// P201, P4, P9: a Part that may not be has no bytes.
func TestBytesOfWrongParts(t *testing.T) {
	for what, p := range wrongParts() {
		if b, e := Bytes(p); e != api.ErrArg || len(b) != 0 {
			t.Errorf("Bytes of %s: %v, %v", what, b, e)
		}
	}
}

// P201: one bit turned, wherever it is, and the bytes are no Part's.
func TestParseOfTurnedBits(t *testing.T) {
	b, _ := Bytes(wholePart())
	for i := range 8 * len(b) {
		c := bytes.Clone(b)
		c[i/8] ^= 1 << (i % 8)
		noPart(t, "a sector with a bit turned", c)
	}
}

// P201: bytes cut off, and bytes too many.
func TestParseOfOtherLengths(t *testing.T) {
	b, _ := Bytes(wholePart())
	long := append(append(bytes.Clone(b), b...), 0)
	for n := range long {
		if n != len(b) {
			noPart(t, "a sector of another length", long[:n])
		}
	}
	noPart(t, "a sector without its first byte", long[1:65])
	noPart(t, "nil", nil)
	noPart(t, "noughts", make([]byte, 64))
	noPart(t, "ones", bytes.Repeat([]byte{255}, 64))
}

// P201: a right sum does not make up for numbers that may not be.
func TestParseOfWrongNumbers(t *testing.T) {
	data := (&dice{4}).bytes(52)
	noPart(t, "Gen 0", sectorOf(0, 1, 0, 1, data))
	noPart(t, "Of 0", sectorOf(1, 1, 0, 0, data))
	noPart(t, "N = Of = 1", sectorOf(1, 1, 1, 1, data))
	noPart(t, "N = Of = 255", sectorOf(1, 1, 255, 255, data))
	noPart(t, "N beyond Of", sectorOf(1, 1, 200, 100, data))
	if _, is := Parse(sectorOf(1, 1, 0, 1, data)); !is {
		t.Error("Parse of a right sector: false")
	}
	// The sum may be one of a whole sector that has its own place still empty: not this one's.
	b := sectorOf(1, 1, 0, 1, data)
	copy(b[8:12], make([]byte, 4))
	binary.LittleEndian.PutUint32(b[8:12], crc32.ChecksumIEEE(b))
	noPart(t, "a sector with a sum over all of it", b)
}

// partsTold are the Parts that the document asks of Cut, told the plain way.
func partsTold(gen, rec int, b []byte) []Part {
	whole := binary.LittleEndian.AppendUint32(nil, uint32(len(b)))
	whole = append(whole, b...)
	for len(whole)%52 != 0 {
		whole = append(whole, 0)
	}
	var l []Part
	for n := 0; n*52 < len(whole); n++ {
		l = append(l, Part{Gen: gen, Rec: rec, N: n, Of: len(whole) / 52, Data: whole[n*52 : (n+1)*52]})
	}
	return l
}

// P202: Cut.
func TestCut(t *testing.T) {
	d := &dice{5}
	for _, n := range []int{0, 1, 47, 48, 49, 99, 100, 101, 255, 256, 257, 1000, longest - 52, longest - 51, longest - 1, longest} {
		for _, mark := range [][2]int{{1, 0}, {7, 3}, {1<<32 - 1, 65535}} {
			b := d.bytes(n)
			if l := cut(t, mark[0], mark[1], b); !reflect.DeepEqual(l, partsTold(mark[0], mark[1], b)) {
				t.Errorf("Cut(%d, %d) of %d bytes: %+v", mark[0], mark[1], n, l)
			}
		}
	}
	if l := cut(t, 1, 0, nil); len(l) != 1 || !bytes.Equal(l[0].Data, make([]byte, 52)) {
		t.Errorf("Cut of nil: %+v", l)
	}
	if l := cut(t, 1, 0, make([]byte, longest)); len(l) != 255 {
		t.Errorf("Cut of %d bytes: %d Parts", longest, len(l))
	}
}

// P202, P4, P6, P9: what Cut refuses, the number that may not be ahead of the length.
func TestCutRefuses(t *testing.T) {
	for _, x := range []struct {
		gen, rec, n int
		want        api.Errno
	}{
		{0, 0, 1, api.ErrArg},
		{-1, 0, 1, api.ErrArg},
		{math.MinInt, 0, 1, api.ErrArg},
		{1 << 32, 0, 1, api.ErrArg},
		{1<<32 + 1, 0, 1, api.ErrArg},
		{math.MaxInt, 0, 1, api.ErrArg},
		{1, -1, 1, api.ErrArg},
		{1, math.MinInt, 1, api.ErrArg},
		{1, 65536, 1, api.ErrArg},
		{1, math.MaxInt, 1, api.ErrArg},
		{0, 65536, 0, api.ErrArg},
		{0, 0, longest + 1, api.ErrArg},
		{1, 65536, longest + 1, api.ErrArg},
		{1, 0, longest + 1, api.ErrLong},
		{1<<32 - 1, 65535, longest + 52, api.ErrLong},
		{1, 0, 256*52 - 4, api.ErrLong},
		{1, 0, 511*52 - 4, api.ErrLong},
		{1, 0, 1 << 20, api.ErrLong},
	} {
		if l, e := Cut(x.gen, x.rec, make([]byte, x.n)); e != x.want || len(l) != 0 {
			t.Errorf("Cut(%d, %d) of %d bytes: %d Parts, %v; want %v", x.gen, x.rec, x.n, len(l), e, x.want)
		}
	}
}

// P203: of every length, and by way of the sectors' bytes.
func TestJoinOfCut(t *testing.T) {
	d := &dice{6}
	all := d.bytes(longest)
	for n := 0; n <= longest; n++ {
		l := cut(t, 1+d.of(1<<31-1), d.of(65536), all[:n])
		if b, is := Join(l); !is || !bytes.Equal(b, all[:n]) {
			t.Fatalf("Join of %d bytes that were cut: %d bytes, %v", n, len(b), is)
		}
	}
	for _, n := range []int{0, 1, 48, 49, 1000, longest} {
		var l []Part
		for _, p := range cut(t, 1<<32-1, 65535, all[:n]) {
			s, _ := Bytes(p)
			p, _ = Parse(s)
			l = append(l, p)
		}
		if b, is := Join(l); !is || !bytes.Equal(b, all[:n]) {
			t.Fatalf("Join of %d bytes by way of sectors: %d bytes, %v", n, len(b), is)
		}
	}
	if b, is := Join(cut(t, 1, 0, make([]byte, 100))); !is || !bytes.Equal(b, make([]byte, 100)) {
		t.Errorf("Join of noughts: %v, %v", b, is)
	}
}

// P202: Parts in another order, left out, twice, of two records.
func TestJoinOfWrongRows(t *testing.T) {
	d := &dice{7}
	l := cut(t, 7, 3, d.bytes(400))
	refused(t, "no list", nil)
	refused(t, "an empty list", []Part{})
	for i := range l {
		refused(t, "a row with one left out", slices.Delete(slices.Clone(l), i, i+1))
		refused(t, "a row with one twice", slices.Insert(slices.Clone(l), i, l[i]))
		for k := range i {
			m := slices.Clone(l)
			m[i], m[k] = m[k], m[i]
			refused(t, "a row in another order", m)
			m = slices.Clone(l)
			m[i] = m[k]
			refused(t, "a row with one in another one's place", m)
		}
		for _, mark := range [][2]int{{8, 3}, {7, 4}} {
			m := slices.Clone(l)
			m[i] = cut(t, mark[0], mark[1], d.bytes(400))[i]
			refused(t, "a row of two records", m)
		}
	}
	refused(t, "two rows", append(slices.Clone(l), l...))
	one := cut(t, 7, 3, nil)
	refused(t, "one Part twice", append(one, one...))
}

// P202: a number or a Data of one Part, or of all of them, that may not be.
func TestJoinOfWrongParts(t *testing.T) {
	for what, wrong := range wrongParts() {
		refused(t, what, []Part{wrong})
	}
	l := cut(t, 7, 3, (&dice{8}).bytes(400))
	for what, change := range map[string]func(p *Part){
		"Gen 0":             func(p *Part) { p.Gen = 0 },
		"Gen 2^32":          func(p *Part) { p.Gen = 1 << 32 },
		"Gen 2^32 + 7":      func(p *Part) { p.Gen = 1<<32 + 7 },
		"Rec -1":            func(p *Part) { p.Rec = -1 },
		"Rec 65536":         func(p *Part) { p.Rec = 65536 },
		"N one more":        func(p *Part) { p.N++ },
		"N one less":        func(p *Part) { p.N-- },
		"N 256 more":        func(p *Part) { p.N += 256 },
		"Of one more":       func(p *Part) { p.Of++ },
		"Of one less":       func(p *Part) { p.Of-- },
		"Of 256 more":       func(p *Part) { p.Of += 256 },
		"no Data":           func(p *Part) { p.Data = nil },
		"Data of 51 bytes":  func(p *Part) { p.Data = p.Data[:51] },
		"Data of 53 bytes":  func(p *Part) { p.Data = append(bytes.Clone(p.Data), 0) },
		"Data of 104 bytes": func(p *Part) { p.Data = append(bytes.Clone(p.Data), make([]byte, 52)...) },
	} {
		all := slices.Clone(l)
		for i := range l {
			m := slices.Clone(l)
			change(&m[i])
			refused(t, what+" of one", m)
			change(&all[i])
		}
		refused(t, what+" of all", all)
	}
	moved := slices.Clone(l)
	moved[0].Data, moved[1].Data = l[0].Data[:51], append(bytes.Clone(l[0].Data[51:]), l[1].Data...)
	refused(t, "Data that is whole only in all", moved)
}

// P202: 256 Parts are too many, whatever they say.
func TestJoinOfTooMany(t *testing.T) {
	for _, of := range []int{0, 255, 256} {
		l := partsTold(1, 1, make([]byte, 256*52-4))
		for i := range l {
			l[i].Of = of
		}
		refused(t, "256 Parts", l)
	}
	l := partsTold(1, 1, make([]byte, 256*52-4))
	for i := range l {
		l[i].N, l[i].Of = i%256, 256%256
	}
	refused(t, "256 Parts of 0", l)
}

// tell makes a row say that it has so many bytes.
func tell(l []Part, length uint32) []Part {
	l = deep(l)
	binary.LittleEndian.PutUint32(l[0].Data, length)
	return l
}

// P202: a length that is not that of the bytes.
func TestJoinOfWrongLengths(t *testing.T) {
	b := bytes.Repeat([]byte{9}, 100+20)
	l := cut(t, 1, 1, b)
	for _, n := range []uint32{0, 1, 48, 100, 119, 153, 156, 157, 1 << 8, 1 << 16, 1 << 24, 1<<31 - 1, 1 << 31, 1<<31 + 120, 1<<32 - 4, 1<<32 - 3, 1<<32 - 1} {
		refused(t, "a row of another length", tell(l, n))
	}
	for n := 121; n <= 152; n++ {
		if got, is := Join(tell(l, uint32(n))); !is || !bytes.Equal(got, append(bytes.Clone(b), make([]byte, n-120)...)) {
			t.Errorf("Join with %d of the noughts taken for bytes: %v, %v", n-120, got, is)
		}
	}
	// Bytes that are noughts may be told away within the last Part, but a Part that is not needed is not Cut's.
	l = cut(t, 1, 1, make([]byte, 101))
	for n := range 101 {
		refused(t, "a row with a Part too many", tell(l, uint32(n)))
	}
	l = cut(t, 1, 1, make([]byte, longest))
	refused(t, "a longest row that tells one byte more", tell(l, longest+1))
	refused(t, "a longest row that tells none", tell(l, 0))
	one := cut(t, 1, 1, nil)
	for _, n := range []uint32{49, 52, 1<<32 - 4, 1<<32 - 1} {
		refused(t, "one Part that tells more than it has", tell(one, n))
	}
	if got, is := Join(tell(one, 48)); !is || !bytes.Equal(got, make([]byte, 48)) {
		t.Errorf("Join of one Part, full: %v, %v", got, is)
	}
}

// P202: noughts that are none.
func TestJoinOfWrongNoughts(t *testing.T) {
	for _, n := range []int{0, 1, 47, 49, 60, 99, 120} {
		l := cut(t, 1, 1, bytes.Repeat([]byte{9}, n))
		last := len(l) - 1
		for at := (n + 4) - last*52; at < 52; at++ {
			m := deep(l)
			m[last].Data[at] = 1 << (at % 8)
			refused(t, "a row with a nought that is none", m)
		}
	}
}
