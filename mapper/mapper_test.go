package mapper

import (
	"math"
	"slices"
	"testing"

	"seepage/api"
	"seepage/header"
)

// knownKinds is all of them.
func knownKinds() []int { return []int{0, 1, 2, 3, 4, 7} }

// farNumbers is as far off as an int goes, and where one wraps to another one if it is cut to fewer bits.
func farNumbers() []int {
	return []int{math.MinInt, math.MinInt + 1, math.MinInt32, -65536, -256, -252, -101, -100, -8, -2, -1, 101, 102, 108, 127, 128, 255, 256, 257, 260, 263, 356, 65536, 65540, math.MaxInt32, math.MaxInt - 1, math.MaxInt}
}

// farTimes is cycles around which numbers wrap, and some plain ones.
func farTimes() []int64 {
	return []int64{math.MinInt64, math.MinInt64 + 1, math.MinInt32, -3, -2, -1, 0, 1, 2, 1000, math.MaxInt32, math.MaxInt32 + 1, math.MaxInt64 - 1, math.MaxInt64}
}

// mayBe is what the words say of a mapper.
func mayBe(m api.Map) bool {
	for _, register := range []uint8{m.Shift, m.Ctl, m.Chr0, m.Chr1, m.Prg} {
		if register > 31 {
			return false
		}
	}
	return slices.Contains(knownKinds(), m.Kind) && m.Count < 5 && 0 <= m.Low && m.Low <= 100
}

// chance is a row of numbers by a plain rule, so that each run has the same ones.
type chance struct{ state uint64 }

// below is the next one, from 0 on.
func (c *chance) below(n int) int {
	c.state = c.state*6364136223846793005 + 1442695040888963407
	return int(c.state>>33) % n
}

// octet is the next one, often at an edge.
func (c *chance) octet() uint8 {
	if c.below(3) == 0 {
		return []uint8{0, 1, 0x7f, 0x80, 0xff}[c.below(5)]
	}
	return uint8(c.below(256))
}

// flag is the next one.
func (c *chance) flag() bool { return c.below(2) == 0 }

// mapper is some mapper that may be.
func (c *chance) mapper() api.Map {
	m := api.Map{
		Kind:     knownKinds()[c.below(6)],
		Vertical: c.flag(), Four: c.flag(), Reload: c.flag(), Enable: c.flag(), Irq: c.flag(),
		Shift: uint8(c.below(32)), Count: uint8(c.below(5)),
		Ctl: uint8(c.below(32)), Chr0: uint8(c.below(32)), Chr1: uint8(c.below(32)), Prg: uint8(c.below(32)),
		Last: farTimes()[c.below(len(farTimes()))],
		Bank: c.octet(), Sel: c.octet(), Mirror: c.octet(), Latch: c.octet(), Counter: c.octet(),
		Low: c.below(101),
	}
	for at := range m.R {
		m.R[at] = c.octet()
	}
	if c.flag() {
		m.Low = []int{0, 7, 8, 9, 99, 100}[c.below(6)]
	}
	return m
}

// wrongs is mappers that may not be, each by one part alone, of a mapper that may.
func wrongs(m api.Map) []api.Map {
	var all []api.Map
	for _, kind := range append(farNumbers(), 5, 6, 8, 9, 16) {
		x := m
		x.Kind = kind
		all = append(all, x)
	}
	for _, low := range farNumbers() {
		x := m
		x.Low = low
		all = append(all, x)
	}
	for _, v := range []uint8{5, 6, 7, 8, 31, 32, 128, 255} {
		x := m
		x.Count = v
		all = append(all, x)
	}
	for _, v := range []uint8{32, 33, 63, 64, 128, 160, 255} {
		for at := range 5 {
			x := m
			*[]*uint8{&x.Shift, &x.Ctl, &x.Chr0, &x.Chr1, &x.Prg}[at] = v
			all = append(all, x)
		}
	}
	return all
}

// holdToCheck fails where Check of a mapper says otherwise than the words.
func holdToCheck(t *testing.T, m api.Map) {
	t.Helper()
	want := api.ErrArg
	if mayBe(m) {
		want = api.OK
	}
	if got := Check(m); got != want {
		t.Fatalf("Check(%+v) = %d, want %d", m, got, want)
	}
}

// P6.1

func TestCheckOfEachPart(t *testing.T) {
	for _, kind := range knownKinds() {
		m := api.Map{Kind: kind, Ctl: 12, Last: -2}
		holdToCheck(t, m)
		for v := range 256 {
			for at := range 19 {
				x := m
				*[]*uint8{
					&x.Shift, &x.Count, &x.Ctl, &x.Chr0, &x.Chr1, &x.Prg, &x.Bank, &x.Sel, &x.Mirror, &x.Latch, &x.Counter,
					&x.R[0], &x.R[1], &x.R[2], &x.R[3], &x.R[4], &x.R[5], &x.R[6], &x.R[7],
				}[at] = uint8(v)
				holdToCheck(t, x)
			}
		}
		for _, last := range farTimes() {
			x := m
			x.Last, x.Reload, x.Enable, x.Irq, x.Four, x.Vertical = last, true, true, true, true, true
			holdToCheck(t, x)
		}
	}
}

func TestCheckOfNumbers(t *testing.T) {
	kinds, lows := farNumbers(), farNumbers()
	for n := -20; n < 300; n++ {
		kinds, lows = append(kinds, n), append(lows, n)
	}
	for _, kind := range kinds {
		for _, low := range lows {
			holdToCheck(t, api.Map{Kind: kind, Low: low})
		}
	}
}

func TestCheckOfWhateverMapper(t *testing.T) {
	c := &chance{1}
	for range 2000 {
		m := c.mapper()
		holdToCheck(t, m)
		if Check(m) != api.OK {
			t.Fatalf("a mapper that may be is refused: %+v", m)
		}
		for _, x := range wrongs(m) {
			holdToCheck(t, x)
			if Check(x) != api.ErrArg {
				t.Fatalf("a mapper that may not be is let be: %+v", x)
			}
		}
	}
}

func TestNewOfAllCartridges(t *testing.T) {
	mappers := append(farNumbers(), 0, 1, 2, 3, 4, 5, 6, 7, 8, 9)
	for _, mapper := range mappers {
		for _, prg := range []int{-16384, 0, 16384, 24576, 524288} {
			for _, chr := range []int{0, 8192, 262144, 262145} {
				for _, sub := range []int{-1, 0, 1, 15, 16} {
					for bits := range 32 {
						c := api.Cart{
							Mapper: mapper, Sub: sub, Prg: prg, Chr: chr,
							Battery: bits&1 != 0, Four: bits&2 != 0, Vertical: bits&4 != 0, Two: bits&8 != 0, Own: bits&16 != 0,
						}
						holdNewToWords(t, c)
					}
				}
			}
		}
	}
}

// holdNewToWords fails where New of a cartridge says otherwise than the words.
func holdNewToWords(t *testing.T, c api.Cart) {
	t.Helper()
	wantError := header.Check(c)
	want := api.Map{}
	if wantError == api.OK {
		want.Kind, want.Vertical, want.Four, want.Ctl, want.Last = c.Mapper, c.Vertical, c.Four, 12, -2
	}
	got, e := New(c)
	if got != want || e != wantError {
		t.Fatalf("New(%+v) = %+v, %d, want %+v, %d", c, got, e, want, wantError)
	}
	if e == api.OK && Check(got) != api.OK {
		t.Fatalf("New(%+v) may not be: %+v", c, got)
	}
}

func TestNewByName(t *testing.T) {
	for _, c := range []struct {
		cart api.Cart
		want api.Map
		e    api.Errno
	}{
		{api.Cart{Prg: 16384, Chr: 8192}, api.Map{Ctl: 12, Last: -2}, api.OK},
		{api.Cart{Mapper: 4, Prg: 524288, Chr: 262144, Four: true, Battery: true}, api.Map{Kind: 4, Four: true, Ctl: 12, Last: -2}, api.OK},
		{api.Cart{Mapper: 7, Sub: 3, Prg: 32768, Chr: 8192, Two: true, Own: true, Vertical: true}, api.Map{Kind: 7, Vertical: true, Ctl: 12, Last: -2}, api.OK},
		{api.Cart{Mapper: 5, Prg: 16384, Chr: 8192, Four: true}, api.Map{}, api.ErrMapper},
		{api.Cart{Mapper: -1}, api.Map{}, api.ErrMapper},
		{api.Cart{Mapper: 1, Prg: 8192, Chr: 8192, Sub: 1}, api.Map{}, api.ErrBanks},
		{api.Cart{Mapper: 1, Vertical: true}, api.Map{}, api.ErrBanks},
		{api.Cart{Mapper: 1, Prg: 16384, Chr: 8192, Sub: 1}, api.Map{}, api.ErrArg},
	} {
		if got, e := New(c.cart); got != c.want || e != c.e {
			t.Errorf("New(%+v) = %+v, %d, want %+v, %d", c.cart, got, e, c.want, c.e)
		}
	}
}

// P6.4

// screensOf is what the words say of how screens are laid out.
func screensOf(m api.Map) int {
	const hor, ver, low, high, four = 0, 1, 2, 3, 4
	lowest := m.Ctl % 4
	switch {
	case m.Kind == 1 && lowest == 0:
		return low
	case m.Kind == 1 && lowest == 1:
		return high
	case m.Kind == 1 && lowest == 2:
		return ver
	case m.Kind == 1:
		return hor
	case m.Kind == 7 && m.Bank&16 == 0:
		return low
	case m.Kind == 7:
		return high
	case m.Four:
		return four
	case m.Kind == 4 && m.Mirror%2 == 0:
		return ver
	case m.Kind == 4:
		return hor
	case m.Vertical:
		return ver
	}
	return hor
}

func TestScreensOfAllRegisters(t *testing.T) {
	for _, kind := range append(knownKinds(), 5, -1, 256, math.MinInt, math.MaxInt) {
		for bits := range 8 {
			for v := range 256 {
				for at := range 3 {
					m := api.Map{Kind: kind, Four: bits&1 != 0, Vertical: bits&2 != 0, Ctl: 12, Last: -2}
					if bits&4 != 0 {
						m.Ctl, m.Bank, m.Mirror = 19, 0xff, 0xff
					}
					*[]*uint8{&m.Ctl, &m.Bank, &m.Mirror}[at] = uint8(v)
					if got := Screens(m); got != screensOf(m) {
						t.Fatalf("Screens(%+v) = %d, want %d", m, got, screensOf(m))
					}
				}
			}
		}
	}
}

func TestScreensOfWhateverMapper(t *testing.T) {
	c := &chance{4}
	for range 100000 {
		m := c.mapper()
		if got := Screens(m); got != screensOf(m) {
			t.Fatalf("Screens(%+v) = %d, want %d", m, got, screensOf(m))
		}
	}
}

func TestScreensByName(t *testing.T) {
	for _, c := range []struct {
		m    api.Map
		want int
	}{
		{api.Map{Kind: 1, Ctl: 12}, api.LowM},
		{api.Map{Kind: 1, Ctl: 13, Four: true}, api.HighM}, // its register counts, however it is wired
		{api.Map{Kind: 1, Ctl: 14}, api.VerM},
		{api.Map{Kind: 1, Ctl: 31, Vertical: true}, api.HorM},
		{api.Map{Kind: 7, Bank: 0xef, Four: true}, api.LowM},
		{api.Map{Kind: 7, Bank: 0x10, Vertical: true}, api.HighM},
		{api.Map{Kind: 4, Mirror: 0xfe}, api.VerM},
		{api.Map{Kind: 4, Mirror: 0x01, Vertical: true}, api.HorM},
		{api.Map{Kind: 4, Mirror: 0x01, Four: true}, api.FourM},
		{api.Map{Kind: 4, Mirror: 0x00, Four: true}, api.FourM},
		{api.Map{Kind: 0}, api.HorM},
		{api.Map{Kind: 2, Vertical: true}, api.VerM},
		{api.Map{Kind: 3, Vertical: true, Four: true}, api.FourM},
		{api.Map{Kind: 0, Mirror: 1, Bank: 16, Ctl: 1, Vertical: true}, api.VerM}, // other kinds' registers are none
	} {
		if got := Screens(c.m); got != c.want {
			t.Errorf("Screens(%+v) = %d, want %d", c.m, got, c.want)
		}
	}
}
