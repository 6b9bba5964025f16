package sprite

import (
	"math"
	"slices"
	"testing"

	"seepage/api"
)

// Units, and what is seen of them, by the chapter's words.

// aboutWords is a row turned about: its last dot is its first one.
func aboutWords(row uint8) uint8 {
	turned := 0
	for range 8 {
		turned = 2*turned + int(row%2)
		row /= 2
	}
	return uint8(turned)
}

// unitWords is a sprite on a line.
func unitWords(l []api.Byte, i int, lo, hi api.Byte) api.Unit {
	y, tile, like, x := l[4*i], l[4*i+1], l[4*i+2], l[4*i+3]
	u := api.Unit{X: x.V, Lo: lo.V, Hi: hi.V, Tint: like.V % 4, Behind: like.V/32%2 == 1, Zero: i == 0}
	if like.V/64%2 == 1 {
		u.Lo, u.Hi = aboutWords(lo.V), aboutWords(hi.V)
	}
	u.S = y.S || tile.S || like.S || x.S || lo.S || hi.S
	return u
}

// seen is what Dot tells.
type seen struct {
	v            uint8
	behind, zero bool
}

// paint is what is seen of units in all columns that they may have, from 0 on: they are painted over one another, the first one last.
func paint(l []api.Unit) [263]seen {
	var all [263]seen
	for i := len(l) - 1; i >= 0; i-- {
		u := l[i]
		lo, hi := u.Lo, u.Hi
		for at := 7; at >= 0; at-- {
			if v := lo%2 + hi%2*2; v != 0 {
				all[int(u.X)+at] = seen{v + u.Tint%4*4, u.Behind, u.Zero}
			}
			lo, hi = lo/2, hi/2
		}
	}
	return all
}

// farColumns is columns in which no unit is, out to both ends of an int.
func farColumns() []int {
	return []int{-1, -2, -7, -8, -255, -256, 263, 264, 511, 65536, 1 << 32, math.MaxInt, math.MaxInt - 7, math.MinInt, math.MinInt + 7, math.MinInt + 255, math.MinInt + 262}
}

// units is some that look like none in particular; their Tints may be more than two bits.
func units(seed, n int) []api.Unit {
	var all []api.Unit
	l := append(spread(seed), spread(seed+1000)...)
	for i := range n {
		b := l[5*i%500:]
		near := uint8(seed*16) + b[0].V%24 // near one another, so that they are over one another
		all = append(all, api.Unit{X: near, Lo: b[1].V & b[2].V, Hi: b[3].V & b[4].V, Tint: b[1].V, Behind: b[2].V%2 == 1, Zero: b[3].V%2 == 1, S: b[4].V%2 == 1})
	}
	return all
}

// P15.3

// holdToUnit fails where Unit does otherwise than the words.
func holdToUnit(t *testing.T, l []api.Byte, i int, lo, hi api.Byte) {
	want := unitWords(l, i, lo, hi)
	if got, e := Unit(l, i, lo, hi); got != want || e != api.OK {
		t.Helper()
		t.Fatalf("Unit(%v, %d, %v, %v) = %+v, %d, want %+v", l[4*i:4*i+4], i, lo, hi, got, e, want)
	}
}

func TestUnitOfAllBits(t *testing.T) {
	l := spread(1)
	for lo := range 256 {
		for hi := range 256 {
			i := (lo + hi) % 64
			for _, like := range []uint8{0, 0x40, 0xbf, 0xff} {
				l[4*i+2].V = like
				holdToUnit(t, l, i, api.Byte{V: uint8(lo)}, api.Byte{V: uint8(hi)})
			}
		}
	}
}

// All that a sprite may be like, and all Xs, for each sprite.
func TestUnitOfAllSprites(t *testing.T) {
	for i := range 64 {
		l := spread(i)
		for n := range 256 {
			for _, x := range []int{0, 1, 85, 170, 255, n} {
				l[4*i+2].V, l[4*i+3].V = uint8(n), uint8(x)
				holdToUnit(t, l, i, api.Byte{V: 0x35}, api.Byte{V: 0xe2})
			}
		}
	}
}

// Each bit of what it is like tells one thing, and no other one.
func TestUnitByBits(t *testing.T) {
	base := api.Unit{X: 77, Lo: 0x35, Hi: 0xe2}
	about, behind, tinted, twice := base, base, base, base
	about.Lo, about.Hi, behind.Behind, tinted.Tint, twice.Tint = 0xac, 0x47, true, 1, 2
	for bit, want := range []api.Unit{tinted, twice, base, base, base, behind, about, base} {
		for i := range 64 {
			l := spread(bit)
			l[4*i+2].V, l[4*i+3].V = 1<<bit, 77
			want.Zero = i == 0
			if got, e := Unit(l, i, api.Byte{V: 0x35}, api.Byte{V: 0xe2}); got != want || e != api.OK {
				t.Errorf("Unit of sprite %d, bit %d: %+v, %d, want %+v", i, bit, got, e, want)
			}
		}
	}
}

// All labels of each sprite's bytes, and of its bits; those of all other bytes are otherwise.
func TestUnitOfSecrets(t *testing.T) {
	for seed := range 4 {
		for i := range 64 {
			for labels := range 64 {
				l := labelled(seed, i, labels)
				lo, hi := api.Byte{V: uint8(seed), S: labels&16 != 0}, api.Byte{V: uint8(i), S: labels&32 != 0}
				holdToUnit(t, l, i, lo, hi)
				if u, _ := Unit(l, i, lo, hi); u.S != (labels != 0) {
					t.Fatalf("Unit of sprite %d by labels %b: %v", i, labels, u.S)
				}
			}
		}
	}
}

func TestUnitOfWhatMayNotBe(t *testing.T) {
	refused := func(l []api.Byte, i int) {
		if u, e := Unit(l, i, api.Byte{V: 1, S: true}, api.Byte{V: 2}); u != (api.Unit{}) || e != api.ErrArg {
			t.Errorf("Unit of %d bytes, %d: %+v, %d", len(l), i, u, e)
		}
	}
	for _, i := range noSprites() {
		refused(withSecrets(spread(5), 3), i)
	}
	for _, l := range notAll() {
		for _, i := range []int{0, 63, -1, 64} {
			refused(l, i)
		}
	}
}

// P15.4

// holdToDot fails where Dot, in any column, does otherwise than the words.
func holdToDot(t *testing.T, l []api.Unit) {
	for x, want := range paint(l) {
		if v, behind, zero := Dot(l, x); (seen{v, behind, zero}) != want {
			t.Helper()
			t.Fatalf("Dot(%+v, %d) = %d, %v, %v, want %+v", l, x, v, behind, zero, want)
		}
	}
	for _, x := range farColumns() {
		if v, behind, zero := Dot(l, x); v != 0 || behind || zero {
			t.Helper()
			t.Fatalf("Dot(%+v, %d) = %d, %v, %v, want 0", l, x, v, behind, zero)
		}
	}
}

// All rows that a unit can have, in each of its columns and beside them.
func TestDotOfAllBits(t *testing.T) {
	for lo := range 256 {
		for hi := range 256 {
			u := api.Unit{X: uint8(lo + 3*hi), Lo: uint8(lo), Hi: uint8(hi), Tint: uint8(hi), Behind: lo%2 == 0, Zero: hi%3 == 0, S: lo%3 == 0}
			for at := -1; at <= 8; at++ {
				var want seen
				if at >= 0 && at <= 7 {
					if v := uint8(lo>>(7-at)%2 + hi>>(7-at)%2*2); v != 0 {
						want = seen{v + u.Tint%4*4, u.Behind, u.Zero}
					}
				}
				v, behind, zero := Dot([]api.Unit{u}, int(u.X)+at)
				if (seen{v, behind, zero}) != want {
					t.Fatalf("Dot of %+v, %d: %d, %v, %v, want %+v", u, at, v, behind, zero, want)
				}
			}
		}
	}
}

// All Xs and all Tints, of which the lowest two bits count.
func TestDotOfAllPlaces(t *testing.T) {
	for x := range 256 {
		for flags := range 8 {
			u := api.Unit{X: uint8(x), Lo: 0xaa, Hi: 0xcc, Tint: uint8(x + flags), Behind: flags&1 != 0, Zero: flags&2 != 0, S: flags&4 != 0}
			holdToDot(t, []api.Unit{u})
		}
	}
}

// Of two that are over one another the first one is seen, where it has a dot.
func TestDotOfTwo(t *testing.T) {
	a := api.Unit{X: 100, Lo: 0xf0, Hi: 0x33, Tint: 1, Zero: true, S: true}
	b := api.Unit{X: 100, Lo: 0xff, Hi: 0x0f, Tint: 2, Behind: true}
	for x := 80; x < 120; x++ {
		b.X = uint8(x)
		holdToDot(t, []api.Unit{a, b})
		holdToDot(t, []api.Unit{b, a})
	}
}

func TestDotOfMany(t *testing.T) {
	for seed := range 400 {
		for _, n := range []int{0, 1, 2, 3, 7, 8, 9, 64} {
			holdToDot(t, units(seed, n))
		}
	}
	holdToDot(t, nil)
	holdToDot(t, []api.Unit{})
}

func TestAny(t *testing.T) {
	if Any(nil) || Any([]api.Unit{}) {
		t.Error("one of none is secret")
	}
	for n := 1; n < 70; n++ {
		l := units(n, n)
		for i := range l {
			l[i].S = false
		}
		if Any(l) {
			t.Errorf("one of %d low ones is secret", n)
		}
		for i := range l {
			one, others := slices.Clone(l), slices.Clone(l)
			for k := range l {
				one[k].S, others[k].S = k == i, k != i
			}
			if !Any(one) || Any(others) != (n > 1) {
				t.Errorf("of %d, %d secret, or all others: %v, %v", n, i, Any(one), Any(others))
			}
		}
	}
	if !Any([]api.Unit{{S: true}}) {
		t.Error("a secret unit of zeros isn't")
	}
}
