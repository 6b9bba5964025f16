package pixel

import (
	"math"
	"testing"

	"seepage/api"
)

// What is shown, and what is seen, by the chapter's words.

// hasBit tells whether a number has a bit.
func hasBit(n uint8, bit int) bool {
	rest := int(n)
	for range bit {
		rest /= 2
	}
	return rest%2 == 1
}

// shownWords is whether the ground, and sprites, are shown in a column.
func shownWords(mask uint8, x int) (bool, bool) {
	ground, sprites := hasBit(mask, 3), hasBit(mask, 4)
	if x <= 7 {
		ground, sprites = ground && hasBit(mask, 1), sprites && hasBit(mask, 2)
	}
	return ground, sprites
}

// isSeenWords tells whether a dot is seen: whether one of its lowest two bits is set.
func isSeenWords(dot uint8) bool { return hasBit(dot, 0) || hasBit(dot, 1) }

// overWords is a place in the palettes.
func overWords(ground, sprite uint8, behind bool) uint8 {
	g, s := isSeenWords(ground), isSeenWords(sprite)
	if !g && !s {
		return 0
	}
	if g && !s || g && s && behind {
		return ground % 16
	}
	return 16 + sprite%16
}

// colourWords is a place's colour, where it has one.
func colourWords(l []api.Byte, i, mask uint8, s bool) api.Byte {
	c := l[i].V % 64
	if mask%2 == 1 {
		c -= c % 16
	}
	return api.Byte{V: c, S: l[i].S || s}
}

// columns is all columns of a picture, some beside them, and some far off, out to both ends of an int.
func columns() []int {
	l := []int{math.MinInt, math.MinInt + 1, math.MinInt + 7, math.MinInt + 8, math.MinInt32, -65536, -1 << 40, 65535, 65536, 65543, 65791, 1 << 32, 1<<32 + 7, 1<<32 + 255, 1 << 40, math.MaxInt32, math.MaxInt - 7, math.MaxInt}
	for x := -300; x < 600; x++ {
		l = append(l, x)
	}
	return l
}

// palettes is all places of the palettes, of octets that look like none in particular: others for each seed.
func palettes(seed int) []api.Byte {
	l := make([]api.Byte, 32)
	n := uint32(seed)*2654435761 + 12345
	for i := range l {
		n = n*1664525 + 1013904223
		l[i] = api.Byte{V: uint8(n >> 24), S: n>>20%4 == 0}
	}
	return l
}

// P16.1

func TestShown(t *testing.T) {
	all := columns()
	for mask := range 256 {
		for _, x := range all {
			wantGround, wantSprites := shownWords(uint8(mask), x)
			if ground, sprites := Shown(uint8(mask), x); ground != wantGround || sprites != wantSprites {
				t.Fatalf("Shown(%d, %d) = %v, %v, want %v, %v", mask, x, ground, sprites, wantGround, wantSprites)
			}
		}
	}
}

// Each bit of the mask alone, and with those that show something at all.
func TestShownAtTheEdge(t *testing.T) {
	for _, c := range []struct {
		mask            uint8
		x               int
		ground, sprites bool
	}{
		{0, 7, false, false}, {0, 8, false, false}, {1, 0, false, false}, {1, 255, false, false},
		{2, 0, false, false}, {2, 7, false, false}, {2, 8, false, false}, {2, 255, false, false},
		{4, 0, false, false}, {4, 7, false, false}, {4, 8, false, false}, {4, 255, false, false},
		{8, -1, false, false}, {8, 0, false, false}, {8, 7, false, false}, {8, 8, true, false}, {8, 255, true, false}, {8, 256, true, false},
		{16, -1, false, false}, {16, 0, false, false}, {16, 7, false, false}, {16, 8, false, true}, {16, 255, false, true}, {16, 256, false, true},
		{10, -1, true, false}, {10, 0, true, false}, {10, 7, true, false}, {10, 8, true, false},
		{20, -1, false, true}, {20, 0, false, true}, {20, 7, false, true}, {20, 8, false, true},
		{12, 0, false, false}, {12, 8, true, false}, {18, 0, false, false}, {18, 8, false, true},
		{26, 7, true, false}, {28, 7, false, true}, {30, 7, true, true}, {30, math.MinInt, true, true}, {24, math.MinInt, false, false}, {24, math.MaxInt, true, true},
		{6, 7, false, false}, {7, 8, false, false}, {0xe0, 7, false, false}, {0xe7, 8, false, false}, {0xff, 7, true, true},
	} {
		if ground, sprites := Shown(c.mask, c.x); ground != c.ground || sprites != c.sprites {
			t.Errorf("Shown(%d, %d) = %v, %v", c.mask, c.x, ground, sprites)
		}
	}
}

func TestOn(t *testing.T) {
	for mask := range 256 {
		if got, want := On(uint8(mask)), hasBit(uint8(mask), 3) || hasBit(uint8(mask), 4); got != want {
			t.Errorf("On(%d) = %v", mask, got)
		}
	}
}

// It is on just where there is a column in which something is shown.
func TestOnIsShownSomewhere(t *testing.T) {
	for mask := range 256 {
		somewhere := false
		for x := range 256 {
			ground, sprites := Shown(uint8(mask), x)
			somewhere = somewhere || ground || sprites
		}
		if On(uint8(mask)) != somewhere {
			t.Errorf("On(%d) = %v", mask, !somewhere)
		}
	}
}

// P16.2

func TestOver(t *testing.T) {
	for ground := range 256 {
		for sprite := range 256 {
			for _, behind := range []bool{false, true} {
				want := overWords(uint8(ground), uint8(sprite), behind)
				if got := Over(uint8(ground), uint8(sprite), behind); got != want {
					t.Fatalf("Over(%d, %d, %v) = %d, want %d", ground, sprite, behind, got, want)
				}
			}
		}
	}
}

func TestOverAtItsEdges(t *testing.T) {
	for _, c := range []struct {
		ground, sprite uint8
		behind         bool
		want           uint8
	}{
		{0, 0, false, 0}, {0, 0, true, 0}, {4, 8, false, 0}, {12, 12, true, 0}, {16, 32, false, 0}, {0xfc, 0xfc, true, 0},
		{1, 0, false, 1}, {1, 0, true, 1}, {2, 4, false, 2}, {3, 8, true, 3}, {15, 12, false, 15}, {17, 16, true, 1}, {255, 252, false, 15},
		{0, 1, false, 17}, {0, 1, true, 17}, {4, 2, false, 18}, {8, 3, true, 19}, {12, 15, true, 31}, {16, 17, true, 17}, {252, 255, true, 31},
		{1, 1, false, 17}, {1, 1, true, 1}, {15, 15, false, 31}, {15, 15, true, 15}, {1, 2, false, 18}, {1, 2, true, 1}, {2, 1, false, 17}, {2, 1, true, 2}, {255, 255, false, 31}, {255, 255, true, 15},
	} {
		if got := Over(c.ground, c.sprite, c.behind); got != c.want {
			t.Errorf("Over(%d, %d, %v) = %d, want %d", c.ground, c.sprite, c.behind, got, c.want)
		}
	}
}

func TestHit(t *testing.T) {
	all := columns()
	for ground := range 256 {
		for sprite := range 256 {
			both := isSeenWords(uint8(ground)) && isSeenWords(uint8(sprite))
			for _, x := range []int{0, 7, 8, 254, 255, 256, all[(ground+256*sprite)%len(all)]} {
				if got := Hit(uint8(ground), uint8(sprite), x); got != (both && x != 255) {
					t.Fatalf("Hit(%d, %d, %d) = %v", ground, sprite, x, got)
				}
			}
		}
	}
}

// In one column alone nothing hits.
func TestHitInAllColumns(t *testing.T) {
	for _, x := range columns() {
		for ground := range 16 {
			for sprite := range 16 {
				want := ground%4 != 0 && sprite%4 != 0 && x != 255
				if got := Hit(uint8(ground), uint8(sprite), x); got != want {
					t.Fatalf("Hit(%d, %d, %d) = %v", ground, sprite, x, got)
				}
			}
		}
	}
}

// P16.3

// holdToColour fails where Colour does otherwise than the words.
func holdToColour(t *testing.T, l []api.Byte, i, mask uint8, s bool) {
	want := colourWords(l, i, mask, s)
	if got, e := Colour(l, i, mask, s); got != want || e != api.OK {
		t.Helper()
		t.Fatalf("Colour(%v, %d, %d, %v) = %v, %d, want %v", l, i, mask, s, got, e, want)
	}
}

// Each place, of each octet and label, those of the others are otherwise; by all masks.
func TestColourOfAllOctets(t *testing.T) {
	for i := range 32 {
		l := palettes(i)
		for v := range 256 {
			for labels := range 4 {
				secret := labels&1 != 0
				for k := range l {
					l[k].S = !secret
				}
				l[i] = api.Byte{V: uint8(v), S: secret}
				for _, mask := range []uint8{0, 1, 0xfe, 0xff, uint8(v + 8*i + labels)} {
					holdToColour(t, l, uint8(i), mask, labels&2 != 0)
				}
			}
		}
	}
}

func TestColourOfAllMasks(t *testing.T) {
	for mask := range 256 {
		for seed := range 4 {
			l := palettes(seed)
			for i := range 32 {
				holdToColour(t, l, uint8(i), uint8(mask), false)
				holdToColour(t, l, uint8(i), uint8(mask), true)
			}
		}
	}
}

func TestColourAtItsEdges(t *testing.T) {
	for _, c := range []struct {
		v, mask, want uint8
	}{
		{0, 0, 0}, {0, 1, 0}, {15, 0, 15}, {15, 1, 0}, {16, 0, 16}, {16, 1, 16}, {63, 0, 63}, {63, 1, 48}, {64, 0, 0}, {64, 1, 0},
		{127, 0, 63}, {128, 0, 0}, {192, 1, 0}, {255, 0, 63}, {255, 1, 48}, {255, 0xfe, 63}, {255, 0xff, 48}, {47, 1, 32}, {0x1d, 1, 16},
	} {
		for _, i := range []uint8{0, 15, 16, 31} {
			l := palettes(7)
			l[i] = api.Byte{V: c.v}
			if got, e := Colour(l, i, c.mask, false); got != (api.Byte{V: c.want}) || e != api.OK {
				t.Errorf("Colour of %d by %d: %v, %d, want %d", c.v, c.mask, got, e, c.want)
			}
		}
	}
}

// A place is read where it is: the sprites' first colours are no others' (as they are in layer 13).
func TestColourOfEachPlaceItsOwn(t *testing.T) {
	l := make([]api.Byte, 32)
	for i := range l {
		l[i].V = uint8(i)
	}
	for i := range l {
		if got, e := Colour(l, uint8(i), 0, false); int(got.V) != i || got.S || e != api.OK {
			t.Errorf("Colour of place %d: %v, %d", i, got, e)
		}
	}
}

func TestColourOfWhatMayNotBe(t *testing.T) {
	refused := func(l []api.Byte, i uint8) {
		for mask := range 256 {
			for _, s := range []bool{false, true} {
				if got, e := Colour(l, i, uint8(mask), s); got != (api.Byte{}) || e != api.ErrArg {
					t.Helper()
					t.Fatalf("Colour of %d bytes, %d, %d, %v: %v, %d", len(l), i, mask, s, got, e)
				}
			}
		}
	}
	full := palettes(3)
	for i := 32; i < 256; i++ {
		refused(full, uint8(i))
	}
	many := make([]api.Byte, 4096)
	for i := range many {
		many[i] = api.Byte{V: 255, S: true}
	}
	for n := range 600 {
		for _, i := range []uint8{0, 1, 16, 31, 32, 33, 255} {
			if n != 32 {
				refused(many[:n], i)
			}
		}
	}
	refused(many, 0)
	refused(many, 31)
	refused(nil, 0)
	refused(nil, 32)
	refused([]api.Byte{}, 0)
}

// The chapter's examples.

func TestExamples(t *testing.T) {
	if ground, sprites := Shown(24, 7); ground || sprites {
		t.Errorf("Shown of 24 in column 7: %v, %v", ground, sprites)
	}
	if ground, sprites := Shown(24, 8); !ground || !sprites {
		t.Errorf("Shown of 24 in column 8: %v, %v", ground, sprites)
	}
	if got := Over(5, 6, false); got != 22 {
		t.Errorf("Over of 5 and 6: %d", got)
	}
	if got := Over(5, 6, true); got != 5 {
		t.Errorf("Over of 5 and 6, behind: %d", got)
	}
	l := make([]api.Byte, 32)
	l[9].V = 255
	if got, e := Colour(l, 9, 1, false); got != (api.Byte{V: 48}) || e != api.OK {
		t.Errorf("Colour of 255 without colours: %v, %d", got, e)
	}
}
