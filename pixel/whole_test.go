package pixel

import (
	"slices"
	"testing"

	"seepage/api"
	"seepage/label"
)

// P16.4

// What is not shown in a column is not in the first eight, or nowhere; what is shown in a column is shown in all from the ninth on.
func TestNotShownIsAheadOrNowhere(t *testing.T) {
	all := columns()
	for mask := range 256 {
		behindGround, behindSprites := Shown(uint8(mask), 8)
		for _, x := range all {
			ground, sprites := Shown(uint8(mask), x)
			if x > 7 && (ground != behindGround || sprites != behindSprites) {
				t.Fatalf("Shown(%d, %d) = %v, %v, but in column 8 %v, %v", mask, x, ground, sprites, behindGround, behindSprites)
			}
			if ground && !behindGround || sprites && !behindSprites {
				t.Fatalf("Shown(%d, %d) = %v, %v, but nowhere behind", mask, x, ground, sprites)
			}
		}
		firstGround, firstSprites := Shown(uint8(mask), 0)
		for x := -300; x < 8; x++ {
			if ground, sprites := Shown(uint8(mask), x); ground != firstGround || sprites != firstSprites {
				t.Fatalf("Shown(%d, %d) = %v, %v, but in column 0 %v, %v", mask, x, ground, sprites, firstGround, firstSprites)
			}
		}
	}
}

// A place is a ground's, or a sprite's, that is seen, or 0: so it is never one whose lowest two bits are 0 but 0, and always one that has a colour.
func TestPlacesAreOfDotsThatAreSeen(t *testing.T) {
	l := palettes(11)
	for ground := range 256 {
		for sprite := range 256 {
			for _, behind := range []bool{false, true} {
				at := Over(uint8(ground), uint8(sprite), behind)
				isGround := isSeenWords(uint8(ground)) && int(at) == ground%16
				isSprite := isSeenWords(uint8(sprite)) && int(at) == 16+sprite%16
				if at != 0 && !isGround && !isSprite || at != 0 && at%4 == 0 {
					t.Fatalf("Over(%d, %d, %v) = %d", ground, sprite, behind, at)
				}
				if _, e := Colour(l, at, 0, false); e != api.OK {
					t.Fatalf("Over(%d, %d, %v) = %d, which has no colour: %d", ground, sprite, behind, at, e)
				}
			}
		}
	}
}

// Where two hit one another, both could be over: by behind it is one, or the other one.
func TestWhatHitsIsOver(t *testing.T) {
	for ground := range 256 {
		for sprite := range 256 {
			over, behind := Over(uint8(ground), uint8(sprite), false), Over(uint8(ground), uint8(sprite), true)
			if both := over >= 16 && behind > 0 && behind < 16; both != Hit(uint8(ground), uint8(sprite), 100) {
				t.Fatalf("%d, %d: over %d, behind %d, hit %v", ground, sprite, over, behind, !both)
			}
		}
	}
}

// Of a dot only its lowest four bits count, of these the lowest two for whether it is seen.
func TestDotsGoAround(t *testing.T) {
	for ground := range 256 {
		for sprite := range 256 {
			g, s := uint8(ground), uint8(sprite)
			if Over(g, s, false) != Over(g%16, s%16, false) || Over(g, s, true) != Over(g%16, s%16, true) {
				t.Fatalf("Over of %d, %d isn't that of these modulo 16", g, s)
			}
			if Hit(g, s, 9) != Hit(g%4, s%4, 9) {
				t.Fatalf("Hit of %d, %d isn't that of these modulo 4", g, s)
			}
		}
	}
}

// Rules of the whole.

// twin is bytes that are alike: all that is secret has another value.
func twin(l []api.Byte, by uint8) []api.Byte {
	l = slices.Clone(l)
	for i, b := range l {
		if b.S {
			l[i].V ^= by
		}
	}
	return l
}

// Of palettes that are alike colours are alike.
func TestTwins(t *testing.T) {
	for seed := range 100 {
		a := palettes(seed)
		for by := 1; by < 256; by++ {
			b := twin(a, uint8(by))
			for i := range uint8(32) {
				for k := range 4 {
					x, _ := Colour(a, i, uint8(k%2), k > 1)
					y, _ := Colour(b, i, uint8(k%2), k > 1)
					if !label.Alike(x, y) {
						t.Fatalf("Colour of %v, %v, %d: %v, and %v", a, b, i, x, y)
					}
				}
			}
		}
	}
}

// No label alters a colour.
func TestLabelsChangeNothing(t *testing.T) {
	for seed := range 300 {
		a := palettes(seed)
		b := slices.Clone(a)
		for i := range b {
			b[i] = label.Erase(b[i])
		}
		for i := range uint8(32) {
			for k := range 4 {
				x, _ := Colour(a, i, uint8(k%2), k > 1)
				y, e := Colour(b, i, uint8(k%2), false)
				if label.Erase(x) != y || e != api.OK {
					t.Fatalf("Colour of %v, %d: %v, without labels %v, %d", a, i, x, y, e)
				}
			}
		}
	}
}

// What is handed in is not changed.
func TestArgumentsStay(t *testing.T) {
	for n := range 70 {
		room := slices.Concat(palettes(n), palettes(n+1), palettes(n+2))
		was := slices.Clone(room)
		for i := range 256 {
			for k := range 4 {
				Colour(room[:n], uint8(i), uint8(k%2), k > 1)
			}
		}
		if !slices.Equal(room, was) {
			t.Fatalf("of %d bytes, what was handed in is another", n)
		}
	}
}
