package tile

import (
	"testing"

	"seepage/api"
)

// dot is one of a tile's sixteen, bit by bit.
type dot struct{ lo, hi, one, two, s bool }

// isSet tells whether a number has a bit.
func isSet(n uint16, bit int) bool { return int(n)>>bit%2 == 1 }

// worth is a bit's, if it is set.
func worth(set bool, of uint16) uint16 {
	if set {
		return of
	}
	return 0
}

// split is a tile's dots, the next one first.
func split(t api.Tile) [16]dot {
	var all [16]dot
	for i := range all {
		bit := 15 - i
		all[i] = dot{isSet(t.Lo, bit), isSet(t.Hi, bit), isSet(t.One, bit), isSet(t.Two, bit), isSet(t.S, bit)}
	}
	return all
}

// join is the tile of dots.
func join(all [16]dot) api.Tile {
	var t api.Tile
	for _, d := range all {
		t = api.Tile{
			Lo:  2*t.Lo + worth(d.lo, 1),
			Hi:  2*t.Hi + worth(d.hi, 1),
			One: 2*t.One + worth(d.one, 1),
			Two: 2*t.Two + worth(d.two, 1),
			S:   2*t.S + worth(d.s, 1),
		}
	}
	return t
}

// someTiles is some in which each bit of each number is set, and isn't, beside such of the others that are, and aren't.
func someTiles() []api.Tile {
	return []api.Tile{
		{},
		{Lo: 0xffff, Hi: 0xffff, One: 0xffff, Two: 0xffff, S: 0xffff},
		{Lo: 0xffff, Hi: 0xffff, One: 0xffff, Two: 0xffff},
		{S: 0xffff},
		{Lo: 0xaaaa, Hi: 0xcccc, One: 0xf0f0, Two: 0xff00, S: 0x5a5a},
		{Lo: 0x3c5a, Hi: 0x9b17, One: 0x00ff, Two: 0xff0f, S: 0x8001},
		{Lo: 0x8000, Hi: 0x0080, One: 0x0100, Two: 0x0001, S: 0x00ff},
	}
}

// withNumber is a tile with another number, by its place: Lo, Hi, One, Two, S.
func withNumber(t api.Tile, place int, n uint16) api.Tile {
	switch place {
	case 0:
		t.Lo = n
	case 1:
		t.Hi = n
	case 2:
		t.One = n
	case 3:
		t.Two = n
	default:
		t.S = n
	}
	return t
}

// everyNumber calls f with tiles in which each number is all that it can be, beside some of the others.
func everyNumber(f func(t api.Tile)) {
	for n := range 65536 {
		for place := range 5 {
			for _, t := range someTiles() {
				f(withNumber(t, place, uint16(n)))
			}
		}
	}
}

// row is what is told to Load.
type row struct {
	lo, hi api.Byte
	tint   uint8
	s      bool
}

// rowOf is a row by which of its three labels are set.
func rowOf(lo, hi, tint uint8, labels int) row {
	return row{api.Byte{V: lo, S: labels&1 != 0}, api.Byte{V: hi, S: labels&2 != 0}, tint, labels&4 != 0}
}

// someRows is some, with all that their labels can be.
func someRows() []row {
	var all []row
	for labels := range 8 {
		all = append(all, rowOf(0xa5, 0x0f, 5, labels), rowOf(0, 0xff, 2, labels), rowOf(0x81, 0x40, 0xfc, labels), rowOf(0, 0, 3, labels))
	}
	return all
}

// load is a tile behind Load of a row.
func load(t api.Tile, r row) api.Tile { return Load(t, r.lo, r.hi, r.tint, r.s) }

// P14.1

// rowWords is a row's eight dots, by the words.
func rowWords(r row) [8]dot {
	var all [8]dot
	for i := range all {
		bit := 7 - i
		all[i] = dot{
			lo:  isSet(uint16(r.lo.V), bit),
			hi:  isSet(uint16(r.hi.V), bit),
			one: isSet(uint16(r.tint), 0),
			two: isSet(uint16(r.tint), 1),
			s:   r.s || r.lo.S || r.hi.S,
		}
	}
	return all
}

// loadWords is a tile behind Load, by the words.
func loadWords(t api.Tile, r row) api.Tile {
	all := split(t)
	for i, d := range rowWords(r) {
		all[8+i] = d
	}
	return join(all)
}

// holdToLoad fails where Load does otherwise than the words.
func holdToLoad(t *testing.T, of api.Tile, r row) {
	if got, want := load(of, r), loadWords(of, r); got != want {
		t.Helper()
		t.Fatalf("Load of %+v, %+v: %+v, want %+v", of, r, got, want)
	}
}

func TestLoadOfAllOctets(t *testing.T) {
	some := someTiles()
	for lo := range 256 {
		for hi := range 256 {
			for labels := range 8 {
				holdToLoad(t, some[(lo+hi)%len(some)], rowOf(uint8(lo), uint8(hi), uint8(lo/3+hi), labels))
			}
		}
	}
}

// Of tint only the lowest two bits count.
func TestLoadOfAllTints(t *testing.T) {
	for tint := range 256 {
		for _, of := range someTiles() {
			for _, r := range someRows() {
				r.tint = uint8(tint)
				holdToLoad(t, of, r)
			}
		}
	}
}

func TestLoadIntoAllNumbers(t *testing.T) {
	rows, n := someRows(), 0
	everyNumber(func(of api.Tile) {
		n++
		holdToLoad(t, of, rows[n%len(rows)])
	})
}

func TestLoadAtItsEdges(t *testing.T) {
	full := api.Tile{Lo: 0xffff, Hi: 0xffff, One: 0xffff, Two: 0xffff, S: 0xffff}
	for _, c := range []struct {
		of   api.Tile
		r    row
		want api.Tile
	}{
		{full, row{}, api.Tile{Lo: 0xff00, Hi: 0xff00, One: 0xff00, Two: 0xff00, S: 0xff00}},
		{full, row{tint: 1}, api.Tile{Lo: 0xff00, Hi: 0xff00, One: 0xffff, Two: 0xff00, S: 0xff00}},
		{full, row{tint: 2}, api.Tile{Lo: 0xff00, Hi: 0xff00, One: 0xff00, Two: 0xffff, S: 0xff00}},
		{full, row{tint: 4}, api.Tile{Lo: 0xff00, Hi: 0xff00, One: 0xff00, Two: 0xff00, S: 0xff00}},
		{api.Tile{}, row{lo: api.Byte{V: 255}}, api.Tile{Lo: 0x00ff}},
		{api.Tile{}, row{hi: api.Byte{V: 255}}, api.Tile{Hi: 0x00ff}},
		{api.Tile{}, row{lo: api.Byte{S: true}}, api.Tile{S: 0x00ff}},
		{api.Tile{}, row{hi: api.Byte{S: true}}, api.Tile{S: 0x00ff}},
		{api.Tile{}, row{s: true}, api.Tile{S: 0x00ff}},
	} {
		if got := load(c.of, c.r); got != c.want {
			t.Errorf("Load of %+v, %+v: %+v, want %+v", c.of, c.r, got, c.want)
		}
	}
}

// P14.2

// shiftWords is a tile behind Shift, by the words.
func shiftWords(t api.Tile) api.Tile {
	all := split(t)
	for i := range 15 {
		all[i] = all[i+1]
	}
	all[15] = dot{}
	return join(all)
}

func TestShift(t *testing.T) {
	everyNumber(func(of api.Tile) {
		if got, want := Shift(of), shiftWords(of); got != want {
			t.Fatalf("Shift of %+v: %+v, want %+v", of, got, want)
		}
	})
}

// P14.3

// tells is a dot's number, and whether it is secret, by the words.
func (d dot) tells() (uint8, bool) {
	return uint8(worth(d.lo, 1) + worth(d.hi, 2) + worth(d.one, 4) + worth(d.two, 8)), d.s
}

// holdToDot fails where Dot of a tile, whose dots are all, tells otherwise than the words.
func holdToDot(t *testing.T, of api.Tile, all [16]dot, x uint8) {
	want, wantS := all[x%8].tells()
	if got, s := Dot(of, x); got != want || s != wantS {
		t.Helper()
		t.Fatalf("Dot of %+v, %d: %d, %v, want %d, %v", of, x, got, s, want, wantS)
	}
}

func TestDotOfAllNumbers(t *testing.T) {
	everyNumber(func(of api.Tile) {
		all := split(of)
		for x := range 8 {
			holdToDot(t, of, all, uint8(x))
		}
	})
}

func TestDotOfAllPlaces(t *testing.T) {
	some := someTiles()
	for n := range 65536 {
		of := withNumber(withNumber(some[n%len(some)], n%5, uint16(n)), (n+2)%5, uint16(n*257))
		all := split(of)
		for x := range 256 {
			holdToDot(t, of, all, uint8(x))
		}
	}
}

// Each number alone tells its own worth, or that it is secret.
func TestDotOfOneBit(t *testing.T) {
	for place, want := range []uint8{1, 2, 4, 8, 0} {
		for bit := range 16 {
			of := withNumber(api.Tile{}, place, 1<<bit)
			for x := range 8 {
				v, s := Dot(of, uint8(x))
				here := bit == 15-x
				if here && (v != want || s != (place == 4)) || !here && (v != 0 || s) {
					t.Fatalf("Dot of %+v, %d: %d, %v", of, x, v, s)
				}
			}
		}
	}
}

// The chapter's examples.

func TestExamples(t *testing.T) {
	of := Load(api.Tile{}, api.Byte{V: 128}, api.Byte{}, 2, false)
	for range 8 {
		of = Shift(of)
	}
	if v, s := Dot(of, 0); v != 9 || s {
		t.Errorf("Dot 0: %d, %v", v, s)
	}
	if v, s := Dot(of, 7); v != 8 || s {
		t.Errorf("Dot 7: %d, %v", v, s)
	}
	of = Load(api.Tile{}, api.Byte{S: true}, api.Byte{}, 0, false)
	for range 8 {
		of = Shift(of)
	}
	for x := range 8 {
		if v, s := Dot(of, uint8(x)); v != 0 || !s {
			t.Errorf("of a secret 0: Dot %d: %d, %v", x, v, s)
		}
	}
}
