package scroll

import (
	"testing"

	"seepage/api"
)

// call is one that is told nothing but a scroll.
type call func(s api.Scroll) (api.Scroll, api.Errno)

// stepOne is Step, not down, and stepDown is Step, down.
func stepOne(s api.Scroll) (api.Scroll, api.Errno)  { return Step(s, false) }
func stepDown(s api.Scroll) (api.Scroll, api.Errno) { return Step(s, true) }

// holdToV fails where a call doesn't put V as the words have it, or puts anything else.
func holdToV(t *testing.T, what string, does call, words func(v, t uint16) uint16) {
	t.Helper()
	hold := func(s api.Scroll) {
		want := s
		want.V = words(s.V, s.T)
		got, e := does(s)
		holdTo(t, what, s, got, e, want)
	}
	everyV(hold)
	everyT(hold)
}

// rightWords is V to the right, by the words.
func rightWords(v, _ uint16) uint16 {
	p := split(v)
	p.x++
	if p.x == 32 {
		p.x, p.across = 0, 1-p.across
	}
	return p.join()
}

// downWords is V down, by the words.
func downWords(v, _ uint16) uint16 {
	p := split(v)
	p.fine++
	if p.fine < 8 {
		return p.join()
	}
	was := p.y
	p.fine, p.y = 0, was+1
	if was == 29 {
		p.y, p.down = 0, 1-p.down
	}
	if was == 31 {
		p.y = 0
	}
	return p.join()
}

// acrossWords is V back to the left, by the words.
func acrossWords(v, t uint16) uint16 {
	p, from := split(v), split(t)
	p.x, p.across = from.x, from.across
	return p.join()
}

// topWords is V back to the top, by the words.
func topWords(v, t uint16) uint16 {
	p, from := split(v), split(t)
	p.fine, p.y, p.down = from.fine, from.y, from.down
	return p.join()
}

// P12.3

func TestStep(t *testing.T) {
	holdToV(t, "Step", stepOne, func(v, _ uint16) uint16 { return uint16((int(v) + 1) % 32768) })
	holdToV(t, "Step down", stepDown, func(v, _ uint16) uint16 { return uint16((int(v) + 32) % 32768) })
}

func TestRight(t *testing.T)  { holdToV(t, "Right", Right, rightWords) }
func TestDown(t *testing.T)   { holdToV(t, "Down", Down, downWords) }
func TestAcross(t *testing.T) { holdToV(t, "Across", Across, acrossWords) }
func TestTop(t *testing.T)    { holdToV(t, "Top", Top, topWords) }

func TestEdgesOfParts(t *testing.T) {
	for _, c := range []struct {
		what    string
		does    call
		s, want parts
	}{
		{"Right in a screen", Right, parts{x: 30, y: 3, fine: 5}, parts{x: 31, y: 3, fine: 5}},
		{"Right out of the left one", Right, parts{x: 31, y: 31, down: 1, fine: 7}, parts{x: 0, y: 31, across: 1, down: 1, fine: 7}},
		{"Right out of the right one", Right, parts{x: 31, y: 31, across: 1, fine: 7}, parts{x: 0, y: 31, fine: 7}},
		{"Down in a tile", Down, parts{x: 9, y: 29, fine: 6}, parts{x: 9, y: 29, fine: 7}},
		{"Down in colours", Down, parts{x: 9, y: 31, fine: 6}, parts{x: 9, y: 31, fine: 7}},
		{"Down to the next tile", Down, parts{x: 9, y: 28, fine: 7}, parts{x: 9, y: 29}},
		{"Down out of the upper screen", Down, parts{x: 31, y: 29, across: 1, fine: 7}, parts{x: 31, across: 1, down: 1}},
		{"Down out of the lower screen", Down, parts{x: 31, y: 29, across: 1, down: 1, fine: 7}, parts{x: 31, across: 1}},
		{"Down between colours", Down, parts{x: 9, y: 30, down: 1, fine: 7}, parts{x: 9, y: 31, down: 1}},
		{"Down out of colours", Down, parts{x: 9, y: 31, down: 1, fine: 7}, parts{x: 9, down: 1}},
		{"Down out of the upper one's colours", Down, parts{x: 9, y: 31, fine: 7}, parts{x: 9}},
	} {
		s := api.Scroll{V: c.s.join()}
		got, e := c.does(s)
		holdTo(t, c.what, s, got, e, api.Scroll{V: c.want.join()})
	}
}

// P12.4

// tileWords, tintWords and rowWords are what is told of V, by the words.
func tileWords(v uint16) uint16 { return 8192 + v%4096 }

func tintWords(v uint16) (uint16, int) {
	p := split(v)
	shift := 0
	if p.y/2%2 == 1 {
		shift += 4
	}
	if p.x/2%2 == 1 {
		shift += 2
	}
	return uint16(9152 + 1024*p.across + 2048*p.down + p.y/4*8 + p.x/4), shift
}

func rowWords(v uint16) uint16 { return uint16(split(v).fine) }

func TestTileTintAndRow(t *testing.T) {
	hold := func(s api.Scroll) {
		if got, want := Tile(s), tileWords(s.V); got != want {
			t.Fatalf("Tile(%+v) = %d, want %d", s, got, want)
		}
		at, shift := Tint(s)
		if wantAt, wantShift := tintWords(s.V); at != wantAt || shift != wantShift {
			t.Fatalf("Tint(%+v) = %d, %d, want %d, %d", s, at, shift, wantAt, wantShift)
		}
		if got, want := Row(s), rowWords(s.V); got != want {
			t.Fatalf("Row(%+v) = %d, want %d", s, got, want)
		}
	}
	everyV(hold)
	everyT(hold)
}

func TestTintByHand(t *testing.T) {
	for _, c := range []struct {
		of    parts
		at    uint16
		shift int
	}{
		{parts{}, 9152, 0},
		{parts{x: 1, y: 1, fine: 7}, 9152, 0},
		{parts{x: 2}, 9152, 2},
		{parts{x: 3, y: 1}, 9152, 2},
		{parts{x: 1, y: 2}, 9152, 4},
		{parts{x: 3, y: 3}, 9152, 6},
		{parts{x: 4}, 9153, 0},
		{parts{y: 4}, 9160, 0},
		{parts{x: 31, y: 29}, 9215, 2},
		{parts{x: 31, y: 31, across: 1}, 10239, 6},
		{parts{down: 1}, 11200, 0},
		{parts{x: 31, y: 31, across: 1, down: 1, fine: 7}, 12287, 6},
	} {
		if at, shift := Tint(api.Scroll{V: c.of.join()}); at != c.at || shift != c.shift {
			t.Errorf("Tint of %+v: %d, %d, want %d, %d", c.of, at, shift, c.at, c.shift)
		}
	}
}
