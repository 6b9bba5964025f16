package header

import (
	"math"
	"slices"
	"strings"
	"testing"

	"seepage/api"
)

// knownMappers is all of them.
func knownMappers() []int { return []int{0, 1, 2, 3, 4, 7} }

// prgSizes is how many octets the program's memory may have.
func prgSizes() []int { return []int{16384, 32768, 65536, 131072, 262144, 524288} }

// chrSizes is how many octets the picture's memory may have, where it has any.
func chrSizes() []int { return []int{8192, 16384, 32768, 65536, 131072, 262144} }

// farNumbers is as far off as an int goes, and where one wraps to another one if it is cut to fewer bits.
func farNumbers() []int {
	return []int{math.MinInt, math.MinInt + 1, math.MinInt + 16384, math.MinInt32, -65536, -16384, -8192, -256, -16, -15, -2, -1, 65537, math.MaxInt32, math.MaxInt/2 + 1, math.MaxInt - 1, math.MaxInt}
}

// mapperNumbers is mappers that are known, and many that are not.
func mapperNumbers() []int {
	l := farNumbers()
	for n := range 300 {
		l = append(l, n)
	}
	for _, n := range knownMappers() {
		l = append(l, 4096+n, 65536+n, math.MaxInt32-7+n, -n)
	}
	return append(l, 1024, 4095)
}

// sizeNumbers is sizes that may be of one memory or the other one, and many that may not.
func sizeNumbers() []int {
	l := append(farNumbers(), 0, 1, 24576, 49152, 98304, 40960, 524289)
	for power := range 23 {
		n := 1 << power
		l = append(l, n, n-1, n+1, -n, n+n/2)
	}
	return l
}

// errorOf is what the words say of a cartridge, in their order.
func errorOf(c api.Cart) api.Errno {
	if !slices.Contains(knownMappers(), c.Mapper) {
		return api.ErrMapper
	}
	if !slices.Contains(prgSizes(), c.Prg) || !slices.Contains(chrSizes(), c.Chr) || c.Own && c.Chr != 8192 {
		return api.ErrBanks
	}
	if c.Two && (c.Sub < 0 || 15 < c.Sub) || !c.Two && c.Sub != 0 {
		return api.ErrArg
	}
	return api.OK
}

// flagged is a cartridge with each of its five flags set and not.
func flagged(c api.Cart) []api.Cart {
	var all []api.Cart
	for bits := range 32 {
		c.Battery, c.Four, c.Vertical, c.Two, c.Own = bits&1 != 0, bits&2 != 0, bits&4 != 0, bits&8 != 0, bits&16 != 0
		all = append(all, c)
	}
	return all
}

// holdToCheck fails where Check of a cartridge says otherwise than the words, or where Make of one that may not be answers anything but its error.
func holdToCheck(t *testing.T, c api.Cart) {
	t.Helper()
	want := errorOf(c)
	if got := Check(c); got != want {
		t.Fatalf("Check(%+v) = %d, want %d", c, got, want)
	}
	if s, e := Make(c); e != want || want != api.OK && s != "" {
		t.Fatalf("Make(%+v) = %q, %d, want %d", c, s, e, want)
	}
}

// P5.1

func TestCheckOfMappers(t *testing.T) {
	for _, mapper := range mapperNumbers() {
		for _, sub := range []int{-1, 0, 15, 16} {
			for _, prg := range []int{0, 16384, 49152} {
				for _, c := range flagged(api.Cart{Mapper: mapper, Sub: sub, Prg: prg, Chr: 8192}) {
					holdToCheck(t, c)
				}
			}
		}
	}
}

func TestCheckOfSizes(t *testing.T) {
	for _, prg := range sizeNumbers() {
		for _, chr := range sizeNumbers() {
			for bits := range 16 {
				c := api.Cart{Mapper: 4, Prg: prg, Chr: chr, Own: bits&1 != 0, Two: bits&2 != 0, Four: bits&4 != 0}
				if bits&8 != 0 {
					c.Sub = 5
				}
				holdToCheck(t, c)
			}
		}
	}
}

func TestCheckOfSubs(t *testing.T) {
	subs := append(farNumbers(), 32, 255, 256, 4096)
	for n := -17; n < 18; n++ {
		subs = append(subs, n)
	}
	for _, sub := range subs {
		for _, mapper := range []int{-1, 0, 3, 5, 7} {
			for _, c := range flagged(api.Cart{Mapper: mapper, Sub: sub, Prg: 524288, Chr: 8192}) {
				holdToCheck(t, c)
			}
		}
	}
}

func TestCheckByName(t *testing.T) {
	for _, c := range []struct {
		cart api.Cart
		want api.Errno
	}{
		{api.Cart{}, api.ErrBanks},
		{api.Cart{Prg: 16384, Chr: 8192}, api.OK},
		{api.Cart{Mapper: 7, Sub: 15, Prg: 524288, Chr: 8192, Two: true, Own: true}, api.OK},
		{api.Cart{Mapper: 4, Prg: 524288, Chr: 262144, Battery: true, Four: true, Vertical: true}, api.OK},
		{api.Cart{Mapper: 5, Prg: 16384, Chr: 8192}, api.ErrMapper},
		{api.Cart{Mapper: 6, Prg: 16384, Chr: 8192}, api.ErrMapper},
		{api.Cart{Mapper: 8, Prg: 16384, Chr: 8192}, api.ErrMapper},
		{api.Cart{Mapper: -1, Prg: 16384, Chr: 8192}, api.ErrMapper},
		{api.Cart{Mapper: 16, Prg: 16384, Chr: 8192}, api.ErrMapper},
		{api.Cart{Mapper: 256, Prg: 16384, Chr: 8192, Two: true}, api.ErrMapper},
		{api.Cart{Mapper: 5, Sub: 99}, api.ErrMapper}, // it is named first
		{api.Cart{Prg: 8192, Chr: 8192}, api.ErrBanks},
		{api.Cart{Prg: 1048576, Chr: 8192}, api.ErrBanks},
		{api.Cart{Prg: 16384, Chr: 4096}, api.ErrBanks},
		{api.Cart{Prg: 16384, Chr: 524288}, api.ErrBanks},
		{api.Cart{Prg: 16384, Chr: 0}, api.ErrBanks}, // none would be an own one, of 8192
		{api.Cart{Prg: 16384, Chr: 0, Own: true}, api.ErrBanks},
		{api.Cart{Prg: 16384, Chr: 16384, Own: true}, api.ErrBanks},
		{api.Cart{Prg: 8192, Chr: 8192, Sub: 1}, api.ErrBanks}, // it is named ahead of Sub
		{api.Cart{Prg: 16384, Chr: 8192, Sub: 1}, api.ErrArg},
		{api.Cart{Prg: 16384, Chr: 8192, Sub: -1}, api.ErrArg},
		{api.Cart{Prg: 16384, Chr: 8192, Sub: -1, Two: true}, api.ErrArg},
		{api.Cart{Prg: 16384, Chr: 8192, Sub: 16, Two: true}, api.ErrArg},
		{api.Cart{Prg: 16384, Chr: 8192, Sub: 15, Two: true}, api.OK},
	} {
		if got := Check(c.cart); got != c.want {
			t.Errorf("Check(%+v) = %d, want %d", c.cart, got, c.want)
		}
		if s, e := Make(c.cart); e != c.want || (len(s) == 16) != (e == api.OK) || e != api.OK && s != "" {
			t.Errorf("Make(%+v) = %q, %d, want %d", c.cart, s, e, c.want)
		}
	}
}

// carts is all cartridges that may be: of these mappers, sizes and subs, of both kinds, with all flags.
func carts(mappers, prgs, chrs, subs []int) []api.Cart {
	var all []api.Cart
	for _, mapper := range mappers {
		for _, prg := range prgs {
			for _, chr := range chrs {
				for _, sub := range subs {
					for _, c := range flagged(api.Cart{Mapper: mapper, Sub: sub, Prg: prg, Chr: chr}) {
						if errorOf(c) == api.OK {
							all = append(all, c)
						}
					}
				}
			}
		}
	}
	return all
}

// headerOf is a cartridge's header by the words, octet by octet.
func headerOf(c api.Cart) string {
	six, seven := 16*c.Mapper, 0
	if c.Vertical {
		six += 1
	}
	if c.Battery {
		six += 2
	}
	if c.Four {
		six += 8
	}
	if c.Two {
		seven = 8
	}
	chr := c.Chr / 8192
	if c.Own {
		chr = 0
	}
	return string([]byte{78, 69, 83, 26, byte(c.Prg / 16384), byte(chr), byte(six), byte(seven), byte(16 * c.Sub), 0, 0, 0, 0, 0, 0, 0})
}

// P5.3

func TestMake(t *testing.T) {
	every := []int{0, 1, 2, 3, 4, 5, 6, 7, 8, 9, 10, 11, 12, 13, 14, 15}
	all := carts(knownMappers(), prgSizes(), chrSizes(), every)
	if want := 6 * 6 * 7 * 8 * 17; len(all) != want { // own memory counts beside the six sizes, the first kind beside the sixteen subs
		t.Fatalf("%d cartridges may be, want %d", len(all), want)
	}
	for _, c := range all {
		if got, e := Make(c); got != headerOf(c) || e != api.OK {
			t.Fatalf("Make(%+v) = %x, %d, want %x", c, got, e, headerOf(c))
		}
	}
}

func TestMakeByName(t *testing.T) {
	for _, c := range []struct {
		cart api.Cart
		want string
	}{
		{api.Cart{Prg: 16384, Chr: 8192}, "NES\x1a\x01\x01\x00\x00\x00\x00\x00\x00\x00\x00\x00\x00"},
		{api.Cart{Prg: 16384, Chr: 8192, Own: true}, "NES\x1a\x01\x00\x00\x00\x00\x00\x00\x00\x00\x00\x00\x00"},
		{api.Cart{Mapper: 4, Prg: 524288, Chr: 262144, Four: true}, "NES\x1a\x20\x20\x48\x00\x00\x00\x00\x00\x00\x00\x00\x00"},
		{api.Cart{Mapper: 7, Sub: 2, Prg: 32768, Chr: 8192, Two: true, Own: true, Vertical: true}, "NES\x1a\x02\x00\x71\x08\x20\x00\x00\x00\x00\x00\x00\x00"},
		{api.Cart{Mapper: 1, Sub: 15, Prg: 262144, Chr: 131072, Two: true, Battery: true}, "NES\x1a\x10\x10\x12\x08\xf0\x00\x00\x00\x00\x00\x00\x00"},
	} {
		if got, e := Make(c.cart); got != c.want || e != api.OK {
			t.Errorf("Make(%+v) = %x, %d, want %x", c.cart, got, e, c.want)
		}
	}
}

// P5.4

func TestWhatIsMadeIsParsedToWhatItWas(t *testing.T) {
	body := octets(524288 + 262144)
	all := slices.Concat(
		carts(knownMappers(), prgSizes()[:1], chrSizes()[:1], []int{0, 1, 8, 15}),
		carts([]int{0, 7}, prgSizes(), chrSizes()[:2], []int{0, 9}),
		carts([]int{4}, prgSizes()[:2], chrSizes(), []int{0, 15}),
	)
	for _, c := range append(all, api.Cart{Mapper: 3, Prg: 524288, Chr: 262144}) {
		head, e := Make(c)
		if e != api.OK {
			t.Fatalf("Make(%+v): %d", c, e)
		}
		behind := c.Prg + c.Chr
		if c.Own {
			behind = c.Prg
		}
		b := head + body[:behind]
		if got, e := Parse(b); got != c || e != api.OK {
			t.Fatalf("Parse of what is made of %+v = %+v, %d", c, got, e)
		}
		got, prg, chr, e := Split(b)
		if got != c || prg != body[:c.Prg] || chr != body[c.Prg:behind] || e != api.OK {
			t.Fatalf("Split of what is made of %+v = %+v, %d and %d octets, %d", c, got, len(prg), len(chr), e)
		}
		if again, e := Make(got); again != head || e != api.OK {
			t.Fatalf("Make of what was parsed = %x, %d, want %x", again, e, head)
		}
		if got, e := Parse(b[:len(b)-1]); got != (api.Cart{}) || e != api.ErrBanks {
			t.Fatalf("Parse of %+v, cut off by one = %+v, %d", c, got, e)
		}
	}
}

func TestWhatIsMadeOfWhatIsParsed(t *testing.T) {
	body := strings.Repeat("x", 512+32768+8192)
	for _, c := range []struct{ from, want string }{
		{"NES\x1a\x02\x01\x4f\x03\xff\xff\xff\xff\xff\xff\xff\xff", "NES\x1a\x02\x01\x4b\x00\x00\x00\x00\x00\x00\x00\x00\x00"},
		{"NES\x1a\x3c\x34\x74\x0b\x70\xff\xff\xff\xff\xff\xff\xff", "NES\x1a\x02\x01\x70\x08\x70\x00\x00\x00\x00\x00\x00\x00"},
	} {
		cart, e := Parse(c.from + body)
		if e != api.OK {
			t.Fatalf("Parse of %x: %d", c.from, e)
		}
		if got, e := Make(cart); got != c.want || e != api.OK {
			t.Errorf("Make of what %x is = %x, %d, want %x", c.from, got, e, c.want)
		}
	}
}
