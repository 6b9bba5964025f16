package bank

import (
	"testing"

	"seepage/api"
)

// chrOf is where an address is in the picture's memory, by the words.
func chrOf(m api.Map, size int, addr uint16) int {
	at := int(addr)
	switch m.Kind {
	case 1:
		if m.Ctl < 16 {
			return inBank(int(m.Chr0)/2, 8192, size, at)
		}
		if at < 4096 {
			return inBank(int(m.Chr0), 4096, size, at)
		}
		return inBank(int(m.Chr1), 4096, size, at-4096)
	case 3:
		return inBank(int(m.Bank), 8192, size, at)
	case 4:
		return chrByFour(m, size, at)
	}
	return at % size
}

// chrByFour is it, of kind 4: as if it weren't turned, of an address 4K further on, around.
func chrByFour(m api.Map, size, at int) int {
	if m.Sel >= 128 {
		at = (at + 4096) % 8192
	}
	switch {
	case at < 2048:
		return inBank(int(m.R[0])/2, 2048, size, at)
	case at < 4096:
		return inBank(int(m.R[1])/2, 2048, size, at-2048)
	case at < 5120:
		return inBank(int(m.R[2]), 1024, size, at-4096)
	case at < 6144:
		return inBank(int(m.R[3]), 1024, size, at-5120)
	case at < 7168:
		return inBank(int(m.R[4]), 1024, size, at-6144)
	}
	return inBank(int(m.R[5]), 1024, size, at-7168)
}

// someChr is the edges of the picture's eight parts.
func someChr() []uint16 { return edges(0, 0x2000, 1024) }

// P7.2

func TestChrOfAllAddressesAndRegisters(t *testing.T) {
	holdAllToWords(t, Chr, chrOf, chrSizes(), every(0, 0x2000), someChr())
}

func TestChrOfKind1(t *testing.T) {
	for ctl := range 32 {
		for number := range 32 {
			for _, m := range bases(1) {
				m.Ctl, m.Chr0, m.Chr1 = uint8(ctl), uint8(number), uint8(number*5+3)%32
				holdToWords(t, Chr, chrOf, m, chrSizes(), someChr())
			}
		}
	}
}

func TestChrOfKind4(t *testing.T) {
	for _, sel := range []uint8{0, 0x3f, 0x40, 0x7f, 0x80, 0x87, 0xc0, 0xff} {
		for number := range 256 {
			m := api.Map{Kind: 4, Sel: sel}
			for i := range m.R {
				m.R[i] = uint8(number * (2*i + 1))
			}
			holdToWords(t, Chr, chrOf, m, chrSizes(), someChr())
		}
	}
}

func TestChrByName(t *testing.T) {
	r := [8]uint8{3, 254, 10, 11, 255, 64}
	for _, c := range []struct {
		m    api.Map
		size int
		addr uint16
		want int
	}{
		{api.Map{}, 262144, 8191, 8191},
		{api.Map{Kind: 2, Bank: 9}, 8192, 0, 0},
		{api.Map{Kind: 7, Bank: 9, Chr0: 5}, 32768, 4096, 4096},
		{api.Map{Kind: 3, Bank: 255}, 262144, 1, 31*8192 + 1},
		{api.Map{Kind: 3, Bank: 255}, 8192, 8191, 8191},
		{api.Map{Kind: 1, Ctl: 15, Chr0: 31, Chr1: 2}, 262144, 4096, 15*8192 + 4096},
		{api.Map{Kind: 1, Ctl: 16, Chr0: 31, Chr1: 2}, 262144, 4095, 32*4096 - 1},
		{api.Map{Kind: 1, Ctl: 16, Chr0: 31, Chr1: 2}, 262144, 4096, 2 * 4096},
		{api.Map{Kind: 1, Ctl: 16, Chr0: 31, Chr1: 2}, 8192, 4096, 0},
		{api.Map{Kind: 1, Ctl: 16, Chr0: 31, Chr1: 2}, 8192, 0, 4096},
		{api.Map{Kind: 4, R: r}, 262144, 0, 2048},
		{api.Map{Kind: 4, R: r}, 262144, 2047, 4095},
		{api.Map{Kind: 4, R: r}, 262144, 4095, 256*1024 - 1},
		{api.Map{Kind: 4, R: r}, 262144, 0x1000, 10 * 1024},
		{api.Map{Kind: 4, R: r}, 262144, 0x1801, 255*1024 + 1},
		{api.Map{Kind: 4, R: r}, 65536, 0x1c00, 0}, // of 64 banks
		{api.Map{Kind: 4, R: r, Sel: 0x80}, 262144, 0x1000, 2048},
		{api.Map{Kind: 4, R: r, Sel: 0x80}, 262144, 0, 10 * 1024},
		{api.Map{Kind: 4, R: r, Sel: 0x80}, 8192, 0x0c02, 2},
		{api.Map{Kind: 4, R: r, Sel: 0x40}, 262144, 0x0400, 3 * 1024},
	} {
		if at, e := Chr(c.m, c.size, c.addr); at != c.want || e != api.OK {
			t.Errorf("Chr(%+v, %d, %#x) = %d, %d, want %d", c.m, c.size, c.addr, at, e, c.want)
		}
	}
}

func TestChrOfWhatMayNotBe(t *testing.T) {
	holdToMappers(t, Chr, []uint16{0, 0x1fff}, 0x2000, 32768)
	holdToSizes(t, Chr, chrSizes(), []uint16{0, 0x1123, 0x1fff})
	holdToAddresses(t, Chr, []int{8192, 262144}, 0, 0x2000)
	for addr := 0x2000; addr < 0x10000; addr++ {
		holdToRefused(t, Chr, api.Map{Kind: 9}, 524288, uint16(addr))
	}
}

// P7.3

func TestChrPlacesFollow(t *testing.T) {
	holdToFollowing(t, Chr, chrSizes(), 0, 0x2000, 1024)
}
