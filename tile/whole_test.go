package tile

import (
	"testing"

	"seepage/api"
	"seepage/label"
)

// P14.4

// eraseWords is a tile with nothing secret.
func eraseWords(t api.Tile) api.Tile {
	return api.Tile{Lo: t.Lo, Hi: t.Hi, One: t.One, Two: t.Two}
}

func TestErase(t *testing.T) {
	everyNumber(func(of api.Tile) {
		if got, want := Erase(of), eraseWords(of); got != want {
			t.Fatalf("Erase of %+v: %+v, want %+v", of, got, want)
		}
	})
}

// alikeWords tells by the words whether two are alike: dot by dot both secret, or the same.
func alikeWords(a, b api.Tile) bool {
	x, y := split(a), split(b)
	for i := range x {
		bothSecret := x[i].s && y[i].s
		if !bothSecret && x[i] != y[i] {
			return false
		}
	}
	return true
}

// holdToAlike fails where Alike tells otherwise than the words, of two in whichever order.
func holdToAlike(t *testing.T, a, b api.Tile) {
	want := alikeWords(a, b)
	if Alike(a, b) != want || Alike(b, a) != want {
		t.Helper()
		t.Fatalf("Alike of %+v, %+v: %v, of these turned about %v, want %v", a, b, Alike(a, b), Alike(b, a), want)
	}
}

// flipped is a tile, some bits of a number of which are others.
func flipped(t api.Tile, place int, bits uint16) api.Tile {
	was := [...]uint16{t.Lo, t.Hi, t.One, t.Two, t.S}
	return withNumber(t, place, was[place]^bits)
}

func TestAlikeOfItself(t *testing.T) {
	everyNumber(func(of api.Tile) {
		if !Alike(of, of) {
			t.Fatalf("%+v isn't alike to itself", of)
		}
	})
}

// Of all that can be secret, each bit of each number alone is another one.
func TestAlikeButForOneBit(t *testing.T) {
	some := someTiles()
	for s := range 65536 {
		a := withNumber(some[s%len(some)], 4, uint16(s))
		for place := range 5 {
			for bit := range 16 {
				holdToAlike(t, a, flipped(a, place, 1<<bit))
			}
		}
	}
}

// Any bits of a number are others.
func TestAlikeButForSomeBits(t *testing.T) {
	for bits := range 65536 {
		for place := range 5 {
			for _, a := range someTiles() {
				holdToAlike(t, a, flipped(a, place, uint16(bits)))
			}
		}
	}
}

// Bits of two numbers are others, that together would come to the same.
func TestAlikeButForTwoNumbers(t *testing.T) {
	for _, a := range someTiles() {
		for one := range 5 {
			for two := range 5 {
				for bit := range 16 {
					holdToAlike(t, a, flipped(flipped(a, one, 1<<bit), two, 1<<bit))
					holdToAlike(t, a, flipped(flipped(a, one, 1<<bit), two, 1<<(15-bit)))
				}
			}
		}
		for _, b := range someTiles() {
			holdToAlike(t, a, b)
		}
	}
}

// P14.5

// shifted is a tile, shifted so often.
func shifted(t api.Tile, times int) api.Tile {
	for range times {
		t = Shift(t)
	}
	return t
}

// holdToComesOut fails where a row that was loaded doesn't come out eight dots later, in order, or is still there sixteen dots later.
func holdToComesOut(t *testing.T, of api.Tile, r row) {
	t.Helper()
	behind := shifted(load(of, r), 8)
	for x, d := range rowWords(r) {
		want, wantS := d.tells()
		if v, s := Dot(behind, uint8(x)); v != want || s != wantS {
			t.Fatalf("%+v in %+v, eight dots later, Dot %d: %d, %v, want %d, %v", r, of, x, v, s, want, wantS)
		}
		if v, s := Dot(shifted(behind, x), 0); v != want || s != wantS {
			t.Fatalf("%+v in %+v, %d dots later: %d, %v, want %d, %v", r, of, 8+x, v, s, want, wantS)
		}
	}
	if last := shifted(behind, 8); last != (api.Tile{}) {
		t.Fatalf("%+v in %+v, sixteen dots later: %+v", r, of, last)
	}
}

func TestWhatIsLoadedComesOut(t *testing.T) {
	some := someTiles()
	for lo := range 256 {
		for hi := range 256 {
			holdToComesOut(t, some[(lo+hi)%len(some)], rowOf(uint8(lo), uint8(hi), uint8(lo+hi/3), (lo+hi/5)%8))
		}
	}
	for _, of := range some {
		for _, r := range someRows() {
			holdToComesOut(t, of, r)
		}
	}
}

// What is loaded leaves the dots ahead of it as they are.
func TestDotsAheadStay(t *testing.T) {
	rows, n := someRows(), 0
	everyNumber(func(of api.Tile) {
		n++
		all, behind := split(of), load(of, rows[n%len(rows)])
		for x := range 8 {
			holdToDot(t, behind, all, uint8(x))
		}
	})
}

// Rows that are loaded one behind another, as of a picture's line, come out as one row of dots, from each place of the first.
func TestRowsInARow(t *testing.T) {
	rows := someRows()
	var want []dot
	for _, r := range rows {
		all := rowWords(r)
		want = append(want, all[:]...)
	}
	for x := range 8 {
		of := load(shifted(load(api.Tile{}, rows[0]), 8), rows[1])
		for i := range len(want) - 16 {
			v, s := Dot(of, uint8(x))
			if wantV, wantS := want[i+x].tells(); v != wantV || s != wantS {
				t.Fatalf("dot %d from %d: %d, %v, want %d, %v", i, x, v, s, wantV, wantS)
			}
			of = Shift(of)
			if i%8 == 7 {
				of = load(of, rows[i/8+2])
			}
		}
	}
}

// holdTwins fails where two that are alike aren't so behind a call, or tell otherwise than alike.
func holdTwins(t *testing.T, a, b api.Tile, r, other row) {
	t.Helper()
	if !Alike(a, b) || !Alike(Shift(a), Shift(b)) || !Alike(load(a, r), load(b, other)) {
		t.Fatalf("%+v, %+v, with %+v, %+v, aren't alike", a, b, r, other)
	}
	for x := range 8 {
		v, s := Dot(a, uint8(x))
		w, ws := Dot(b, uint8(x))
		if s != ws || !s && v != w {
			t.Fatalf("Dot %d of %+v, %+v: %d, %v, and %d, %v", x, a, b, v, s, w, ws)
		}
	}
}

// twinRow is a row that differs from another one in all that is secret of it; its tint is, where s is set.
func twinRow(r row) row {
	if r.lo.S {
		r.lo.V = ^r.lo.V
	}
	if r.hi.S {
		r.hi.V = ^r.hi.V
	}
	if r.s {
		r.tint = ^r.tint
	}
	return r
}

func TestTwins(t *testing.T) {
	rows, some := someRows(), someTiles()
	for s := range 65536 {
		r := rows[s%len(rows)]
		other := twinRow(r)
		if !label.Alike(r.lo, other.lo) || !label.Alike(r.hi, other.hi) {
			t.Fatalf("%+v, %+v are no twins", r, other)
		}
		a := withNumber(some[s%len(some)], 4, uint16(s))
		for place := range 4 {
			holdTwins(t, a, flipped(a, place, uint16(s)), r, other)
			holdTwins(t, a, flipped(a, place, uint16(s)&0x9669), r, other)
		}
		holdTwins(t, a, api.Tile{Lo: a.Lo ^ a.S, Hi: a.Hi ^ a.S, One: a.One ^ a.S, Two: a.Two ^ a.S, S: a.S}, r, other)
	}
}

// No label changes a dot.
func TestLabelsChangeNothing(t *testing.T) {
	rows, n := someRows(), 0
	everyNumber(func(of api.Tile) {
		n++
		r := rows[n%len(rows)]
		bare := row{lo: label.Erase(r.lo), hi: label.Erase(r.hi), tint: r.tint}
		if Erase(Shift(of)) != Shift(Erase(of)) || Erase(load(of, r)) != load(Erase(of), bare) {
			t.Fatalf("%+v, with %+v: labels change it", of, r)
		}
		for x := range 8 {
			v, _ := Dot(of, uint8(x))
			if w, s := Dot(Erase(of), uint8(x)); v != w || s {
				t.Fatalf("Dot %d of %+v: %d, without labels %d, %v", x, of, v, w, s)
			}
		}
	})
}
