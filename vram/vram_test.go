package vram

import (
	"math"
	"testing"

	"seepage/api"
	"seepage/mapper"
)

// everyAddress calls f with all addresses.
func everyAddress(f func(addr uint16)) {
	for addr := range 65536 {
		f(uint16(addr))
	}
}

// layouts is the five ways by which screens are laid out.
func layouts() []int { return []int{api.HorM, api.VerM, api.LowM, api.HighM, api.FourM} }

// noLayouts is numbers that are none of the five: beside these, at the ends of an int, and such that are one of them if they are cut to fewer bits.
func noLayouts() []int {
	all := []int{math.MaxInt, math.MaxInt - 1, math.MaxInt32, math.MinInt32}
	for n := range 5 {
		all = append(all, -1-n, 5+n, 256+n, -256+n, 65536+n, -65536+n, math.MinInt+n)
	}
	return all
}

// Where an address is, by the chapter's words.

// kindWords is an address's kind.
func kindWords(addr uint16) int {
	n := int(addr)
	for n >= 16384 {
		n -= 16384
	}
	if n < 8192 {
		return 0
	}
	if n >= 16128 {
		return 2
	}
	return 1
}

// screenWords is an address's place, if it is of a screen: that of its lowest ten bits in the screen that bits 10 and 11 tell.
func screenWords(addr uint16, screens int) int {
	place, across, down := 0, 0, 0
	for bit := range 10 {
		if addr&(1<<bit) != 0 {
			place += 1 << bit
		}
	}
	if addr&(1<<10) != 0 {
		across = 1
	}
	if addr&(1<<11) != 0 {
		down = 1
	}
	switch screens {
	case api.HorM:
		return 1024*down + place
	case api.VerM:
		return 1024*across + place
	case api.LowM:
		return place
	case api.HighM:
		return 1024 + place
	}
	return 1024*(2*down+across) + place
}

// paletteWords is an address's place, if it is of a palette.
func paletteWords(addr uint16) int {
	place := int(addr) % 32
	switch place {
	case 16, 20, 24, 28:
		return place - 16
	}
	return place
}

// P13.1

func TestKind(t *testing.T) {
	everyAddress(func(addr uint16) {
		if got := Kind(addr); got != kindWords(addr) {
			t.Fatalf("Kind(%d) = %d, want %d", addr, got, kindWords(addr))
		}
	})
}

func TestKindAtItsEdges(t *testing.T) {
	for _, c := range []struct {
		addr uint16
		want int
	}{
		{0, api.PatternW}, {8191, api.PatternW}, {8192, api.ScreenW}, {12288, api.ScreenW}, {16127, api.ScreenW}, {16128, api.PaletteW}, {16383, api.PaletteW},
		{16384, api.PatternW}, {24575, api.PatternW}, {24576, api.ScreenW}, {32511, api.ScreenW}, {32512, api.PaletteW}, {32767, api.PaletteW},
		{32768, api.PatternW}, {49152, api.PatternW}, {57343, api.PatternW}, {57344, api.ScreenW}, {65279, api.ScreenW}, {65280, api.PaletteW}, {65535, api.PaletteW},
	} {
		if got := Kind(c.addr); got != c.want {
			t.Errorf("Kind(%d) = %d, want %d", c.addr, got, c.want)
		}
	}
}

// holdToScreen fails where an address of a screen is elsewhere than the words say, or where one that is none is told a place.
func holdToScreen(t *testing.T, addr uint16, screens int) {
	want, e := 0, api.ErrArg
	if kindWords(addr) == 1 {
		want, e = screenWords(addr, screens), api.OK
	}
	if got, err := Screen(addr, screens); got != want || err != e {
		t.Helper()
		t.Fatalf("Screen(%d, %d) = %d, %d, want %d, %d", addr, screens, got, err, want, e)
	}
}

func TestScreen(t *testing.T) {
	for _, screens := range layouts() {
		everyAddress(func(addr uint16) { holdToScreen(t, addr, screens) })
	}
}

func TestScreenByNoLayout(t *testing.T) {
	for _, screens := range noLayouts() {
		everyAddress(func(addr uint16) {
			if at, e := Screen(addr, screens); at != 0 || e != api.ErrArg {
				t.Fatalf("Screen(%d, %d) = %d, %d, want 0, ErrArg", addr, screens, at, e)
			}
		})
	}
}

// The same place in each of the four screens, by each layout.
func TestScreenByName(t *testing.T) {
	for _, c := range []struct {
		name    string
		screens int
		want    [4]int
	}{
		{"HorM", api.HorM, [4]int{7, 7, 1031, 1031}},
		{"VerM", api.VerM, [4]int{7, 1031, 7, 1031}},
		{"LowM", api.LowM, [4]int{7, 7, 7, 7}},
		{"HighM", api.HighM, [4]int{1031, 1031, 1031, 1031}},
		{"FourM", api.FourM, [4]int{7, 1031, 2055, 3079}},
	} {
		for which, want := range c.want {
			addr := uint16(8192 + 1024*which + 7)
			for _, a := range []uint16{addr, addr + 4096, addr + 16384, addr + 49152} {
				if at, e := Screen(a, c.screens); at != want || e != api.OK {
					t.Errorf("Screen(%d, %s) = %d, %d, want %d", a, c.name, at, e, want)
				}
			}
		}
	}
}

// What layer 6 tells of a mapper is taken, whichever it is.
func TestScreenByMappers(t *testing.T) {
	told := map[int]int{}
	for _, m := range []api.Map{
		{}, {Vertical: true}, {Four: true},
		{Kind: 1}, {Kind: 1, Ctl: 1}, {Kind: 1, Ctl: 2}, {Kind: 1, Ctl: 3},
		{Kind: 4}, {Kind: 4, Mirror: 1}, {Kind: 4, Four: true}, {Kind: 7}, {Kind: 7, Bank: 16},
	} {
		screens := mapper.Screens(m)
		told[screens]++
		everyAddress(func(addr uint16) { holdToScreen(t, addr, screens) })
	}
	if len(told) != 5 {
		t.Errorf("mappers told %d layouts, want 5", len(told))
	}
}

func TestPalette(t *testing.T) {
	everyAddress(func(addr uint16) {
		want, e := 0, api.ErrArg
		if kindWords(addr) == 2 {
			want, e = paletteWords(addr), api.OK
		}
		if got, err := Palette(addr); got != want || err != e {
			t.Fatalf("Palette(%d) = %d, %d, want %d, %d", addr, got, err, want, e)
		}
	})
}

// All places of palettes: those that are the lower half's, and those around them, that are not.
func TestPaletteByPlace(t *testing.T) {
	want := [32]int{
		0, 1, 2, 3, 4, 5, 6, 7, 8, 9, 10, 11, 12, 13, 14, 15,
		0, 17, 18, 19, 4, 21, 22, 23, 8, 25, 26, 27, 12, 29, 30, 31,
	}
	for place, at := range want {
		for _, from := range []int{16128, 16160, 16352, 32512, 65280, 65504} {
			if got, e := Palette(uint16(from + place)); got != at || e != api.OK {
				t.Errorf("Palette(%d) = %d, %d, want %d", from+place, got, e, at)
			}
		}
	}
}

// P13.2

// Each place below the limit that the words leave is told of some address, and none beyond it.
func TestPlacesAreBelowTheirLimits(t *testing.T) {
	for screens, limit := range map[int]int{api.HorM: 2048, api.VerM: 2048, api.LowM: 1024, api.HighM: 2048, api.FourM: 4096} {
		var seen [4096]bool
		everyAddress(func(addr uint16) {
			at, e := Screen(addr, screens)
			if at < 0 || at >= limit {
				t.Fatalf("Screen(%d, %d) = %d, want below %d", addr, screens, at, limit)
			}
			seen[at] = seen[at] || e == api.OK
		})
		for at := range limit {
			if seen[at] != (screens != api.HighM || at >= 1024) {
				t.Fatalf("by %d, is place %d of some address: %v", screens, at, seen[at])
			}
		}
	}
	everyAddress(func(addr uint16) {
		if at, _ := Palette(addr); at < 0 || at >= 32 {
			t.Fatalf("Palette(%d) = %d, want below 32", addr, at)
		}
	})
}

// Two addresses have one place just if they are of one place in screens that are one.
func TestScreensThatAreOne(t *testing.T) {
	// By each layout: of each of the four, the first one that it is one with.
	one := map[int][4]int{api.HorM: {0, 0, 2, 2}, api.VerM: {0, 1, 0, 1}, api.LowM: {0, 0, 0, 0}, api.HighM: {0, 0, 0, 0}, api.FourM: {0, 1, 2, 3}}
	for screens, first := range one {
		for place := range 1024 {
			var at [4]int
			for which := range at {
				got, e := Screen(uint16(8192+1024*which+place), screens)
				if e != api.OK {
					t.Fatalf("by %d, place %d of screen %d: %d", screens, place, which, e)
				}
				at[which] = got
			}
			for a := range at {
				for b := range at {
					if (at[a] == at[b]) != (first[a] == first[b]) {
						t.Fatalf("by %d, place %d of screens %d and %d: %d and %d", screens, place, a, b, at[a], at[b])
					}
				}
			}
		}
	}
}

// Where addresses go around, they have the place that they had.
func TestAddressesGoAround(t *testing.T) {
	everyAddress(func(addr uint16) {
		next := addr + 16384
		if Kind(addr) != Kind(next) {
			t.Fatalf("Kind of %d and %d: %d and %d", addr, next, Kind(addr), Kind(next))
		}
		for _, screens := range append(layouts(), -1, 5) {
			a, ae := Screen(addr, screens)
			b, be := Screen(next, screens)
			if a != b || ae != be {
				t.Fatalf("Screen of %d and %d by %d: %d, %d and %d, %d", addr, next, screens, a, ae, b, be)
			}
		}
		a, ae := Palette(addr)
		b, be := Palette(next)
		if a != b || ae != be {
			t.Fatalf("Palette of %d and %d: %d, %d and %d, %d", addr, next, a, ae, b, be)
		}
	})
}

// The chapter's examples.

func TestExamples(t *testing.T) {
	if at, e := Screen(10240, api.HorM); at != 1024 || e != api.OK {
		t.Errorf("Screen(10240, HorM) = %d, %d", at, e)
	}
	if at, e := Screen(10240, api.VerM); at != 0 || e != api.OK {
		t.Errorf("Screen(10240, VerM) = %d, %d", at, e)
	}
	if at, e := Palette(16144); at != 0 || e != api.OK {
		t.Errorf("Palette(16144) = %d, %d", at, e)
	}
	if Kind(16127) != api.ScreenW {
		t.Errorf("Kind(16127) = %d", Kind(16127))
	}
}
