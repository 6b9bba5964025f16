package bank

import (
	"testing"

	"seepage/api"
)

// prgOf is where an address is in the program's memory, by the words.
func prgOf(m api.Map, size int, addr uint16) int {
	at := int(addr) - 32768
	half, quarter := at%16384, at%8192
	switch m.Kind {
	case 1:
		return prgByOne(m, size, at)
	case 2:
		if addr < 49152 {
			return inBank(int(m.Bank), 16384, size, half)
		}
		return inBank(lastBank(16384, size), 16384, size, half)
	case 4:
		last := lastBank(8192, size)
		numbers := []int{int(m.R[6]), int(m.R[7]), last - 1, last}
		if m.Sel/64%2 == 1 {
			numbers = []int{last - 1, int(m.R[7]), int(m.R[6]), last}
		}
		return inBank(numbers[at/8192], 8192, size, quarter)
	case 7:
		return inBank(int(m.Bank)%8, 32768, size, at)
	}
	return at % size
}

// prgByOne is it, of kind 1.
func prgByOne(m api.Map, size, at int) int {
	number, upper, half := int(m.Prg)%16, at >= 16384, at%16384
	switch mode := m.Ctl / 4 % 4; {
	case mode < 2:
		return inBank(number/2, 32768, size, at)
	case mode == 2 && !upper:
		return inBank(0, 16384, size, half)
	case mode == 3 && upper:
		return inBank(lastBank(16384, size), 16384, size, half)
	}
	return inBank(number, 16384, size, half)
}

// somePrg is the edges of the program's four parts.
func somePrg() []uint16 { return edges(0x8000, 0x10000, 8192) }

// P7.1

func TestPrgOfAllAddressesAndRegisters(t *testing.T) {
	holdAllToWords(t, Prg, prgOf, prgSizes(), every(0x8000, 0x10000), somePrg())
}

func TestPrgOfKind1(t *testing.T) {
	for ctl := range 32 {
		for number := range 32 {
			for _, m := range bases(1) {
				m.Ctl, m.Prg = uint8(ctl), uint8(number)
				holdToWords(t, Prg, prgOf, m, prgSizes(), somePrg())
			}
		}
	}
}

func TestPrgOfKind4(t *testing.T) {
	for _, sel := range []uint8{0, 0x3f, 0x40, 0x47, 0x80, 0xbf, 0xc0, 0xff} {
		for number := range 256 {
			m := api.Map{Kind: 4, Sel: sel, R: [8]uint8{1, 2, 3, 4, 5, 6, uint8(number), uint8(number*7 + 1)}}
			holdToWords(t, Prg, prgOf, m, prgSizes(), somePrg())
		}
	}
}

func TestPrgByName(t *testing.T) {
	r := [8]uint8{6: 3, 7: 9}
	for _, c := range []struct {
		m    api.Map
		size int
		addr uint16
		want int
	}{
		{api.Map{Kind: 2, Bank: 1}, 65536, 32768, 16384},
		{api.Map{Kind: 2, Bank: 1}, 65536, 49152, 49152},
		{api.Map{}, 16384, 49152, 0},
		{api.Map{Kind: 4}, 131072, 57344, 131072 - 8192}, // the chapter's examples until here
		{api.Map{Bank: 3, Prg: 3}, 524288, 65535, 32767},
		{api.Map{Kind: 3, Bank: 3}, 16384, 65535, 16383},
		{api.Map{Kind: 1, Ctl: 0, Prg: 31}, 524288, 32768, 7 * 32768},
		{api.Map{Kind: 1, Ctl: 4, Prg: 6}, 524288, 65535, 4*32768 - 1},
		{api.Map{Kind: 1, Ctl: 0, Prg: 15}, 16384, 49153, 1},
		{api.Map{Kind: 1, Ctl: 8, Prg: 17}, 524288, 49151, 16383},
		{api.Map{Kind: 1, Ctl: 8, Prg: 17}, 524288, 49152, 16384},
		{api.Map{Kind: 1, Ctl: 12, Prg: 17}, 524288, 49151, 32767},
		{api.Map{Kind: 1, Ctl: 12, Prg: 17}, 524288, 49152, 524288 - 16384}, // the last one of all, though Prg can't name it
		{api.Map{Kind: 2, Bank: 255}, 524288, 32768, 31 * 16384},
		{api.Map{Kind: 2, Bank: 255}, 16384, 49151, 16383},
		{api.Map{Kind: 7, Bank: 0xff}, 524288, 32768, 7 * 32768},
		{api.Map{Kind: 7, Bank: 0xf8}, 524288, 40000, 7232},
		{api.Map{Kind: 7, Bank: 2}, 65536, 65535, 32767},
		{api.Map{Kind: 4, R: r}, 65536, 0xa001, 8193}, // of eight banks the tenth is the second
		{api.Map{Kind: 4, R: r, Sel: 0x40}, 65536, 0xa001, 8193},
		{api.Map{Kind: 4, R: r}, 16384, 0x8000, 8192},
		{api.Map{Kind: 4, R: r}, 16384, 0xc000, 0},
		{api.Map{Kind: 4, R: r, Sel: 0x40}, 16384, 0x8000, 0},
		{api.Map{Kind: 4, R: r, Sel: 0x40}, 524288, 0xdfff, 4*8192 - 1},
		{api.Map{Kind: 4, R: r, Sel: 0xbf}, 524288, 0x8000, 3 * 8192},
	} {
		if at, e := Prg(c.m, c.size, c.addr); at != c.want || e != api.OK {
			t.Errorf("Prg(%+v, %d, %#x) = %d, %d, want %d", c.m, c.size, c.addr, at, e, c.want)
		}
	}
}

func TestPrgOfWhatMayNotBe(t *testing.T) {
	holdToMappers(t, Prg, []uint16{0x8000, 0xffff}, 0x7fff, 32768)
	holdToSizes(t, Prg, prgSizes(), []uint16{0x8000, 0xc123, 0xffff})
	holdToAddresses(t, Prg, []int{16384, 524288}, 0x8000, 0x10000)
	for addr := range 0x8000 {
		holdToRefused(t, Prg, api.Map{Kind: 9}, 8192, uint16(addr))
	}
}

// P7.3

func TestPrgPlacesFollow(t *testing.T) {
	holdToFollowing(t, Prg, prgSizes(), 0x8000, 0x10000, 8192)
}
