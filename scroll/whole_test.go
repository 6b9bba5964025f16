package scroll

import (
	"testing"

	"seepage/api"
)

// named is a call, and what it is called.
type named struct {
	what string
	does call
}

// calls is all that a scroll comes out of, those with an octet by some.
func calls() []named {
	all := []named{{"Status", Status}, {"Step", stepOne}, {"Step down", stepDown}, {"Right", Right}, {"Down", Down}, {"Across", Across}, {"Top", Top}}
	for _, v := range []uint8{0, 1, 2, 7, 8, 0x3f, 0x5a, 0x80, 0xff} {
		all = append(all,
			named{"Control", func(s api.Scroll) (api.Scroll, api.Errno) { return Control(s, v) }},
			named{"Write", func(s api.Scroll) (api.Scroll, api.Errno) { return Write(s, v) }},
			named{"Addr", func(s api.Scroll) (api.Scroll, api.Errno) { return Addr(s, v) }})
	}
	return all
}

// What holds of a scroll that may not be.

// holdToRefused fails where a call does anything with a scroll that may not be, or tells anything of it.
func holdToRefused(t *testing.T, all []named, s api.Scroll) {
	t.Helper()
	for _, c := range all {
		if got, e := c.does(s); got != s || e != api.ErrArg {
			t.Fatalf("%s of %+v: %+v, %d, want it as it was, ErrArg", c.what, s, got, e)
		}
	}
	at, shift := Tint(s)
	if Tile(s) != 0 || at != 0 || shift != 0 || Row(s) != 0 {
		t.Fatalf("of %+v: tile %d, tint %d, %d, row %d, want zeros", s, Tile(s), at, shift, Row(s))
	}
}

func TestWhatMayNotBeIsRefused(t *testing.T) {
	all := calls()
	for n := range 32768 {
		good, bad := uint16(n), uint16(n+32768)
		for _, w := range []bool{false, true} {
			holdToRefused(t, all, api.Scroll{V: bad, T: good, X: uint8(n % 8), W: w})
			holdToRefused(t, all, api.Scroll{V: good, T: bad, X: uint8(n % 8), W: w})
			holdToRefused(t, all, api.Scroll{V: good, T: 32767 - good, X: uint8(8 + n%248), W: w})
		}
	}
	holdToRefused(t, all, api.Scroll{V: 65535, T: 65535, X: 255, W: true})
}

func TestOctetsOfWhatMayNotBe(t *testing.T) {
	for v := range 256 {
		for _, s := range []api.Scroll{{V: 32768}, {V: 65535, W: true}, {T: 32768, W: true}, {T: 65535}, {X: 8}, {X: 255, W: true}} {
			for i, does := range []func(s api.Scroll, v uint8) (api.Scroll, api.Errno){Control, Write, Addr} {
				if got, e := does(s, uint8(v)); got != s || e != api.ErrArg {
					t.Fatalf("%d of %+v, %d: %+v, %d", i, s, v, got, e)
				}
			}
		}
	}
}

// P12.5

func TestWhatMayBeStaysSo(t *testing.T) {
	all := calls()
	hold := func(s api.Scroll) {
		for _, c := range all {
			if next, e := c.does(s); Check(next) != api.OK || e != api.OK {
				t.Fatalf("%s of %+v: %+v, %d", c.what, s, next, e)
			}
		}
	}
	for n := range 32768 {
		for _, other := range someAddresses() {
			hold(api.Scroll{V: uint16(n), T: other, X: uint8(n % 8), W: n%3 == 0})
			hold(api.Scroll{V: other, T: uint16(n), X: uint8(n % 8), W: n%3 == 0})
		}
	}
}

// times is a scroll behind so many calls.
func times(t *testing.T, n int, does call, s api.Scroll) api.Scroll {
	for range n {
		next, e := does(s)
		if e != api.OK {
			t.Helper()
			t.Fatalf("of %+v: %d", s, e)
		}
		s = next
	}
	return s
}

func TestRightGoesAround(t *testing.T) {
	for v := range 32768 {
		s := api.Scroll{V: uint16(v), T: 0x2aaa, X: 3, W: true}
		other := split(s.V)
		other.across = 1 - other.across
		want := s
		want.V = other.join()
		if got := times(t, 32, Right, s); got != want {
			t.Fatalf("32 times to the right of %+v: %+v, want %+v", s, got, want)
		}
		if got := times(t, 64, Right, s); got != s {
			t.Fatalf("64 times to the right of %+v: %+v", s, got)
		}
	}
}

// From the top, and from each line of a screen's tiles.
func TestDownGoesAround(t *testing.T) {
	for v := range 32768 {
		s := api.Scroll{V: uint16(v), T: 0x5555, X: 6}
		other := split(s.V)
		if other.y > 29 {
			continue
		}
		other.down = 1 - other.down
		want := s
		want.V = other.join()
		if got := times(t, 240, Down, s); got != want {
			t.Fatalf("240 times down from %+v: %+v, want %+v", s, got, want)
		}
	}
}

// From a screen's colours it goes to the top of the same one.
func TestDownFromColours(t *testing.T) {
	for v := range 32768 {
		s := api.Scroll{V: uint16(v)}
		p := split(s.V)
		if p.y < 30 {
			continue
		}
		left := (32-p.y)*8 - p.fine
		p.y, p.fine = 0, 0
		if got := times(t, left, Down, s); got.V != p.join() {
			t.Fatalf("%d times down from %+v: %+v, want V %d", left, s, got, p.join())
		}
	}
}

// What goes across doesn't see, nor change, what is down, and the other way around: so it is one which of both is first.
func TestAcrossAndDownAreApart(t *testing.T) {
	for v := range 32768 {
		for _, kept := range someAddresses() {
			s := api.Scroll{V: uint16(v), T: kept}
			for i, x := range []call{Right, Across} {
				for j, y := range []call{Down, Top} {
					one, other := times(t, 1, y, times(t, 1, x, s)), times(t, 1, x, times(t, 1, y, s))
					if one != other {
						t.Fatalf("%d, %d of %+v: %+v, %+v", i, j, s, one, other)
					}
					a, b, both := split(times(t, 1, x, s).V), split(times(t, 1, y, s).V), split(one.V)
					if both != (parts{x: a.x, across: a.across, y: b.y, down: b.down, fine: b.fine}) {
						t.Fatalf("%d, %d of %+v: %+v", i, j, s, both)
					}
				}
			}
		}
	}
}
