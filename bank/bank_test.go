package bank

import (
	"math"
	"slices"
	"testing"

	"seepage/api"
	"seepage/mapper"
)

// kinds is all that are known.
func kinds() []int { return []int{0, 1, 2, 3, 4, 7} }

// prgSizes is how many octets the program's memory may have.
func prgSizes() []int { return []int{16384, 32768, 65536, 131072, 262144, 524288} }

// chrSizes is how many octets the picture's memory may have.
func chrSizes() []int { return []int{8192, 16384, 32768, 65536, 131072, 262144} }

// register is one of a mapper's that may be from 0 up to a number.
type register struct {
	at   *uint8
	most int
}

// registers is a mapper's.
func registers(m *api.Map) []register {
	l := []register{
		{&m.Shift, 31}, {&m.Count, 4}, {&m.Ctl, 31}, {&m.Chr0, 31}, {&m.Chr1, 31}, {&m.Prg, 31},
		{&m.Bank, 255}, {&m.Sel, 255}, {&m.Mirror, 255}, {&m.Latch, 255}, {&m.Counter, 255},
	}
	for i := range m.R {
		l = append(l, register{&m.R[i], 255})
	}
	return l
}

// bases is mappers of a kind: one of zeros, one in which all is as great as it may be, and two in which registers differ from one another.
func bases(kind int) []api.Map {
	full := api.Map{Kind: kind, Vertical: true, Four: true, Last: math.MaxInt64, Reload: true, Enable: true, Irq: true, Low: 100}
	rising, falling := full, api.Map{Kind: kind, Last: -2}
	for i, r := range registers(&full) {
		*r.at = uint8(r.most)
		*registers(&rising)[i].at = uint8((37*i + 5) % (r.most + 1))
		*registers(&falling)[i].at = uint8((251*i + 90) % (r.most + 1))
	}
	return []api.Map{{Kind: kind}, full, rising, falling}
}

// varied calls f with each base of a kind, and with each that differs from one in one register alone, by all that that may be.
func varied(kind int, f func(m api.Map)) {
	for _, base := range bases(kind) {
		f(base)
		for i := range registers(&base) {
			m := base
			r := registers(&m)[i]
			for v := range r.most + 1 {
				*r.at = uint8(v)
				f(m)
			}
		}
	}
}

// edges is addresses at both ends of parts of so many octets, and within them.
func edges(from, to, unit int) []uint16 {
	var l []uint16
	for at := from; at < to; at += unit {
		l = append(l, uint16(at), uint16(at+unit/2+1), uint16(at+unit-1))
	}
	return l
}

// every is all addresses from one up to below another one.
func every(from, to int) []uint16 {
	var l []uint16
	for at := from; at < to; at++ {
		l = append(l, uint16(at))
	}
	return l
}

// inBank is where a bank's octet is by the words.
func inBank(number, unit, size, octet int) int {
	if size < unit {
		return octet % size
	}
	return number%(size/unit)*unit + octet
}

// lastBank is the greatest number of a bank in a memory.
func lastBank(unit, size int) int { return max(size/unit, 1) - 1 }

// wrongs is mappers that may not be, each by one part alone, of a mapper that may.
func wrongs(m api.Map) []api.Map {
	var all []api.Map
	for _, kind := range []int{math.MinInt, -256, -4, -1, 5, 6, 8, 15, 256, 260, 1 << 32, math.MaxInt} {
		x := m
		x.Kind = kind
		all = append(all, x)
	}
	for _, low := range []int{math.MinInt, -1, 101, 256, math.MaxInt} {
		x := m
		x.Low = low
		all = append(all, x)
	}
	for i, r := range registers(&m) {
		for v := r.most + 1; v < 256; v++ {
			x := m
			*registers(&x)[i].at = uint8(v)
			all = append(all, x)
		}
	}
	return all
}

// sizes is numbers that may be a memory's size, and many that may not.
func sizes() []int {
	l := []int{math.MinInt, math.MinInt + 16384, math.MinInt32, -524288, -16384, -8192, -1, 0, 1, 24576, 49152, 1 << 32, 1<<32 + 16384, 1<<32 + 8192, math.MaxInt - 1, math.MaxInt}
	for power := range 23 {
		n := 1 << power
		l = append(l, n-1, n, n+1, n+n/2)
	}
	return l
}

// call is Prg, or Chr.
type call func(m api.Map, size int, addr uint16) (int, api.Errno)

// holdToRefused fails where a call isn't refused.
func holdToRefused(t *testing.T, f call, m api.Map, size int, addr uint16) {
	t.Helper()
	if at, e := f(m, size, addr); at != 0 || e != api.ErrArg {
		t.Fatalf("of %+v, %d octets, %#x: %d, %d, want 0, ErrArg", m, size, addr, at, e)
	}
}

// holdToPlaced fails where a call doesn't tell this place.
func holdToPlaced(t *testing.T, f call, m api.Map, size int, addr uint16, want int) {
	t.Helper()
	if at, e := f(m, size, addr); at != want || e != api.OK {
		t.Fatalf("of %+v, %d octets, %#x: %d, %d, want %d", m, size, addr, at, e, want)
	}
}

// words is where an address is, by the words.
type words func(m api.Map, size int, addr uint16) int

// holdToWords fails where a call tells another place than the words do.
func holdToWords(t *testing.T, f call, w words, m api.Map, mayBe []int, addrs []uint16) {
	t.Helper()
	for _, size := range mayBe {
		for _, addr := range addrs {
			holdToPlaced(t, f, m, size, addr, w(m, size, addr))
		}
	}
}

// holdAllToWords fails likewise: of the bases at all addresses, of those that are varied at some.
func holdAllToWords(t *testing.T, f call, w words, mayBe []int, all, some []uint16) {
	t.Helper()
	for _, kind := range kinds() {
		for _, m := range bases(kind) {
			holdToWords(t, f, w, m, mayBe, all)
		}
		varied(kind, func(m api.Map) { holdToWords(t, f, w, m, mayBe, some) })
	}
}

// holdToMappers fails where a call isn't refused for a mapper that may not be, whatever else is right or wrong, or is for one that may.
func holdToMappers(t *testing.T, f call, good []uint16, bad uint16, right int) {
	t.Helper()
	for _, kind := range kinds() {
		for _, base := range bases(kind) {
			if mapper.Check(base) != api.OK {
				t.Fatalf("a base that may not be: %+v", base)
			}
			for _, x := range wrongs(base) {
				for _, addr := range append(good, bad) {
					holdToRefused(t, f, x, right, addr)
					holdToRefused(t, f, x, 0, addr)
				}
			}
			for _, addr := range good {
				if _, e := f(base, right, addr); e != api.OK {
					t.Fatalf("of %+v, %#x: %d", base, addr, e)
				}
			}
		}
	}
}

// holdToSizes fails where a call isn't refused for a size that may not be, or is for one that may.
func holdToSizes(t *testing.T, f call, mayBe []int, good []uint16) {
	t.Helper()
	for _, kind := range kinds() {
		for _, base := range bases(kind) {
			for _, size := range append(sizes(), mayBe...) {
				for _, addr := range good {
					if !slices.Contains(mayBe, size) {
						holdToRefused(t, f, base, size, addr)
					} else if _, e := f(base, size, addr); e != api.OK {
						t.Fatalf("of %+v, %d octets, %#x: %d", base, size, addr, e)
					}
				}
			}
		}
	}
}

// holdToAddresses fails where a call isn't refused for an address that isn't from one up to below another one, or is for one that is.
func holdToAddresses(t *testing.T, f call, mayBe []int, from, to int) {
	t.Helper()
	for _, kind := range kinds() {
		for _, base := range bases(kind) {
			for _, size := range mayBe {
				for addr := range 65536 {
					if addr < from || addr >= to {
						holdToRefused(t, f, base, size, uint16(addr))
					} else if _, e := f(base, size, uint16(addr)); e != api.OK {
						t.Fatalf("of %+v, %d octets, %#x: %d", base, size, addr, e)
					}
				}
			}
		}
	}
}

// holdToFollowing fails where a place is outside the memory, or where places don't follow one another within parts of so many octets, but for those at their ends.
func holdToFollowing(t *testing.T, f call, mayBe []int, from, to, unit int) {
	t.Helper()
	for _, kind := range kinds() {
		varied(kind, func(m api.Map) {
			for _, size := range mayBe {
				for first := from; first < to; first += unit {
					begin, e := f(m, size, uint16(first))
					if begin < 0 || begin >= size || begin%unit != 0 || e != api.OK {
						t.Fatalf("of %+v, %d octets, %#x: %d, %d", m, size, first, begin, e)
					}
					for _, step := range []int{1, unit / 2, unit - 1} {
						holdToPlaced(t, f, m, size, uint16(first+step), begin+step)
					}
				}
			}
		})
	}
}
