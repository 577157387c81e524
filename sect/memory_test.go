package sect

import (
	"bytes"
	"reflect"
	"slices"
	"testing"

	"deadbolt/api"
)

// spared is b with spare room behind it, and the whole of it.
func spared(b []byte) (part, whole []byte) {
	whole = append(bytes.Clone(b), bytes.Repeat([]byte{0xa5}, 100)...)
	return whole[:len(b)], whole
}

// spoil changes all of a list, its spare room too.
func spoil(b []byte) {
	b = b[:cap(b)]
	for i := range b {
		b[i] ^= 0xff
	}
}

// P2: Bytes and Parse.
func TestMemoryOfSectors(t *testing.T) {
	data, whole := spared(wholePart().Data)
	kept := bytes.Clone(whole)
	p := wholePart()
	p.Data = data
	b, _ := Bytes(p)
	told := bytes.Clone(b)
	spoil(b)
	if !bytes.Equal(whole, kept) {
		t.Error("Bytes shares memory with Data, or changed it")
	}
	if again, _ := Bytes(p); !bytes.Equal(again, told) {
		t.Error("Bytes answers otherwise the second time")
	}
	b, whole = spared(told)
	kept = bytes.Clone(whole)
	Crc(b)
	back, _ := Parse(b)
	spoil(back.Data)
	if !bytes.Equal(whole, kept) {
		t.Error("Parse shares memory with its bytes, or changed them")
	}
	back, _ = Parse(b)
	spoil(b)
	if !reflect.DeepEqual(back, wholePart()) {
		t.Error("a Part changed with the bytes that it was parsed of")
	}
	if _, is := Parse(b); is {
		t.Error("Parse of spoilt bytes: true")
	}
	if !bytes.Equal(whole[64:], bytes.Repeat([]byte{0x5a}, 100)) {
		t.Error("Parse of spoilt bytes changed their spare room")
	}
}

// P2: Cut, and that its lists do not share.
func TestMemoryOfCut(t *testing.T) {
	text := (&dice{11}).bytes(200)
	b, whole := spared(text)
	kept := bytes.Clone(whole)
	l := cut(t, 3, 4, b)
	want := partsTold(3, 4, text)
	for i := range l {
		spoil(l[i].Data)
		for k := range l {
			if k > i && !reflect.DeepEqual(l[k], want[k]) {
				t.Fatalf("Part %d changed with Part %d", k, i)
			}
		}
	}
	if !bytes.Equal(whole, kept) {
		t.Error("Cut shares memory with its bytes, or changed them")
	}
	l = cut(t, 3, 4, b)
	for i := range l {
		_ = append(l[i].Data, 1, 2, 3)
	}
	spoil(b)
	if !reflect.DeepEqual(l, want) {
		t.Error("Parts changed with what was cut, or by appending to one of them")
	}
	if !reflect.DeepEqual(cut(t, 3, 4, text), want) {
		t.Error("Cut answers otherwise the second time")
	}
}

// P2: Join.
func TestMemoryOfJoin(t *testing.T) {
	text := (&dice{12}).bytes(200)
	l := cut(t, 3, 4, text)
	var wholes, kepts [][]byte
	for i := range l {
		var whole []byte
		l[i].Data, whole = spared(l[i].Data)
		wholes, kepts = append(wholes, whole), append(kepts, bytes.Clone(whole))
	}
	row := append(slices.Clone(l), Part{Gen: 99})
	b, is := Join(row[:len(l)])
	if !is || !bytes.Equal(b, text) {
		t.Fatalf("Join: %v, %v", b, is)
	}
	spoil(b)
	if !reflect.DeepEqual(wholes, kepts) || !reflect.DeepEqual(row, append(slices.Clone(l), Part{Gen: 99})) {
		t.Error("Join shares memory with its Parts, or changed them")
	}
	b, _ = Join(l)
	for i := range l {
		spoil(l[i].Data)
	}
	if !bytes.Equal(b, text) {
		t.Error("joined bytes changed with their Parts")
	}
}

// junk is a Part of numbers and Data that are near what may be, or far from it.
func junk(d *dice) Part {
	numbers := []int{-1 << 63, -1, 0, 1, 2, 3, 254, 255, 256, 65535, 65536, 1<<32 - 1, 1 << 32, 1<<63 - 1}
	pick := func() int { return numbers[d.of(len(numbers))] }
	p := Part{Gen: pick(), Rec: pick(), N: pick(), Of: pick()}
	switch d.of(4) {
	case 0:
		p.Data = d.bytes(d.of(120))
	case 1:
		p.Data = make([]byte, 52)
	case 2:
		p.Data = d.bytes(52)
	}
	return p
}

// P1, P4: nothing panics, and what is answered is held against the calls the other way.
func TestAnyPartsAndBytes(t *testing.T) {
	d := &dice{13}
	for range 20000 {
		p := junk(d)
		b, e := Bytes(p)
		back, is := Parse(b)
		if is != (e == api.OK) || is && !reflect.DeepEqual(back, p) {
			t.Fatalf("Bytes(%+v): %v; Parse: %+v, %v", p, e, back, is)
		}
		noPart(t, "any bytes", d.bytes(d.of(130)))
		l := make([]Part, d.of(5))
		for i := range l {
			l[i] = junk(d)
			if d.of(2) == 0 {
				l[i].Gen, l[i].Rec, l[i].N, l[i].Of = 1, 1, i, len(l)
			}
		}
		text, is := Join(l)
		if !is && len(text) != 0 {
			t.Fatalf("Join(%+v): false, and %v", l, text)
		}
		if is && !reflect.DeepEqual(cut(t, l[0].Gen, l[0].Rec, text), l) {
			t.Fatalf("Join(%+v) is %v, of which Cut makes others", l, text)
		}
	}
}

// rejoined is what Join should answer of a row of 52 bytes each: found by trying Cut with every length.
func rejoined(l []Part) ([]byte, bool) {
	var whole []byte
	for _, p := range l {
		whole = append(whole, p.Data...)
	}
	for n := 0; n+4 <= len(whole); n++ {
		if m, e := Cut(l[0].Gen, l[0].Rec, whole[4:4+n]); e == api.OK && reflect.DeepEqual(m, l) {
			return whole[4 : 4+n], true
		}
	}
	return nil, false
}

// P202: rows that are near to what Cut makes, held against a search for what was cut.
func TestRowsNearCut(t *testing.T) {
	d := &dice{14}
	for range 2000 {
		b := d.bytes(d.of(110))
		for i := range b {
			b[i] *= byte(d.of(2))
		}
		l := deep(cut(t, 1+d.of(2), d.of(2), b))
		for range d.of(3) {
			i := d.of(len(l))
			switch d.of(4) {
			case 0:
				l[i].Data[d.of(52)] = byte(d.of(3))
			case 1:
				l[0].Data[0] = byte(d.of(160))
			case 2:
				l[i].Data[51-d.of(8)] = 0
			case 3:
				l[i].Gen = 1 + d.of(2)
			}
		}
		got, is := Join(l)
		want, wantIs := rejoined(l)
		if is != wantIs || !bytes.Equal(got, want) {
			t.Fatalf("Join(%+v): %v, %v; want %v, %v", l, got, is, want, wantIs)
		}
	}
}
