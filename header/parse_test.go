package header

import (
	"strings"
	"testing"

	"seepage/api"
)

// octets is so many octets that differ from the ones beside them, and from those a memory's smallest part further on.
func octets(many int) string {
	l := make([]byte, many)
	for at := range l {
		l[at] = byte(at*7 + at/256 + at/8192*3 + 1)
	}
	return string(l)
}

// sizeOf is how many octets a memory has by the words, doubled step by step, but held where none may be any more.
func sizeOf(octet, half, unit int) int {
	if half != 15 {
		return (half*256 + octet) * unit
	}
	size := 2*(octet%4) + 1
	for range octet / 4 {
		size = min(2*size, 1<<24)
	}
	return size
}

// told is what octets tell by the words: the cartridge, where the program's and the picture's memory begin, and where they end.
func told(b string) (c api.Cart, prg, chr, end int, e api.Errno) {
	if len(b) < 16 || b[0] != 78 || b[1] != 69 || b[2] != 83 || b[3] != 26 {
		return c, 0, 0, 0, api.ErrHeader
	}
	six, seven, eight, nine := int(b[6]), int(b[7]), int(b[8]), int(b[9])
	c.Two = seven/8%2 == 1 && seven/4%2 == 0
	if !c.Two {
		eight, nine = 0, 0
	}
	c.Mapper, c.Sub = six/16+seven/16*16+eight%16*256, eight/16
	c.Prg, c.Chr = sizeOf(int(b[4]), nine%16, 16384), sizeOf(int(b[5]), nine/16, 8192)
	c.Vertical, c.Battery, c.Four = six%2 == 1, six/2%2 == 1, six/8%2 == 1
	prg = 16
	if six/4%2 == 1 {
		prg += 512
	}
	chr = prg + c.Prg
	end = chr + c.Chr
	if c.Chr == 0 {
		c.Chr, c.Own = 8192, true
	}
	if e = errorOf(c); e == api.OK && len(b) < end {
		e = api.ErrBanks
	}
	if e != api.OK {
		return api.Cart{}, 0, 0, 0, e
	}
	return c, prg, chr, end, api.OK
}

// holdToWords fails where Parse or Split of octets says otherwise than the words.
func holdToWords(t *testing.T, b string) {
	t.Helper()
	want, from, mid, end, f := told(b)
	begin := b[:min(len(b), 16)]
	if c, e := Parse(b); c != want || e != f {
		t.Fatalf("Parse of %x and %d octets = %+v, %d, want %+v, %d", begin, len(b)-len(begin), c, e, want, f)
	}
	if c, prg, chr, e := Split(b); c != want || prg != b[from:mid] || chr != b[mid:end] || e != f {
		t.Fatalf("Split of %x and %d octets = %+v, %d and %d octets, %d, want %+v, %d", begin, len(b)-len(begin), c, len(prg), len(chr), e, want, f)
	}
}

// heads is headers of both kinds, with trainers and without, of which each octet is changed by the tests.
func heads() []string {
	return []string{
		"NES\x1a\x02\x01\x13\x00\x00\x00\x00\x00\x00\x00\x00\x00",
		"NES\x1a\x01\x00\x74\x04\x30\x00\x01\x02\x03\x04\x05\x06",
		"NES\x1a\x01\x01\x4b\x07\x51\x11\xff\xff\xff\xff\xff\xff",
		"NES\x1a\x02\x01\x20\x08\x50\x00\x00\x00\x00\x00\x00\x00",
		"NES\x1a\x01\x00\x0d\x0b\xf0\x00\x07\x07\x07\x07\x07\x07",
		"NES\x1a\x3c\x34\x74\x0a\x00\xff\x00\x00\x00\x00\x00\x00",
		"NES\x1a\x38\x00\x3f\x08\x10\x0f\x00\x00\x00\x00\x00\x00",
	}
}

// changed is octets with another one at a place.
func changed(b string, at int, v byte) string {
	return b[:at] + string([]byte{v}) + b[at+1:]
}

// P5.2

func TestParseOfHeadersThatDifferInAnOctet(t *testing.T) {
	body := octets(512 + 32768 + 8192)
	for _, head := range heads() {
		if _, e := Parse(head + body); e != api.OK {
			t.Fatalf("Parse of %x: %d", head, e)
		}
		for at := range 16 {
			for v := range 256 {
				holdToWords(t, changed(head, at, byte(v))+body)
			}
		}
	}
}

func TestParseOfHeadersThatDifferInTwoOctets(t *testing.T) {
	body := octets(16384 + 8192)
	head := heads()[4]
	for _, first := range []int{7, 8, 9} { // a kind, and what hangs on it
		for second := 4; second < 10; second++ {
			for _, v := range []byte{0, 1, 4, 8, 12, 15, 16, 0x0f, 0x18, 0x80, 0xf0, 0xff} {
				for w := range 256 {
					holdToWords(t, changed(changed(head, first, v), second, byte(w))+body)
				}
			}
		}
	}
}

func TestParseOfAllMappers(t *testing.T) {
	body := octets(16384 + 8192)
	for mapper := range 4096 {
		head := []byte("NES\x1a\x01\x01\x00\x08\x00\x00\x00\x00\x00\x00\x00\x00")
		head[6], head[7], head[8] = byte(mapper<<4), byte(mapper&0xf0|8), byte(mapper>>8|0x90)
		holdToWords(t, string(head)+body)
		head[7] &= 0xf0
		holdToWords(t, string(head)+body)
	}
}

// holdToSizes fails where Parse or Split of a header says otherwise than the words, with nothing behind it, and with all that it asks for, one octet less, and one more.
func holdToSizes(t *testing.T, head, body string) {
	t.Helper()
	half := 0
	if head[7]&12 == 8 {
		half = int(head[9])
	}
	holdToWords(t, head)
	all := sizeOf(int(head[4]), half%16, 16384) + sizeOf(int(head[5]), half/16, 8192)
	for _, behind := range []int{all - 1, all, all + 1} {
		if behind >= 0 && behind <= len(body) {
			holdToWords(t, head+body[:behind])
		}
	}
}

func TestParseOfAllSizes(t *testing.T) {
	body := octets(1<<20 + 1<<14)
	for octet := range 256 {
		for half := range 16 {
			for _, kind := range []byte{0, 8} {
				holdToSizes(t, string([]byte{'N', 'E', 'S', 26, byte(octet), 1, 0, kind, 0, byte(half), 0, 0, 0, 0, 0, 0}), body)
				holdToSizes(t, string([]byte{'N', 'E', 'S', 26, 1, byte(octet), 0, kind, 0, byte(half << 4), 0, 0, 0, 0, 0, 0}), body)
			}
		}
	}
}

func TestParseOfPowersThatAreSizes(t *testing.T) {
	body := octets(524288 + 262144)
	for power := range 64 {
		for odd := range 4 {
			octet := byte(power<<2 | odd)
			holdToSizes(t, "NES\x1a"+string([]byte{octet, octet})+"\x00\x08\x00\xff\x00\x00\x00\x00\x00\x00", body)
			b := "NES\x1a" + string([]byte{octet, 0}) + "\x00\x08\x00\x0f\x00\x00\x00\x00\x00\x00" + body
			want := api.ErrBanks
			if power >= 14 && power <= 19 && odd == 0 {
				want = api.OK
			}
			if c, e := Parse(b); e != want || e == api.OK && c != (api.Cart{Prg: 1 << power, Chr: 8192, Two: true, Own: true}) {
				t.Errorf("Parse of a program's memory of 2 to the power of %d times %d = %+v, %d", power, 2*odd+1, c, e)
			}
		}
	}
}

func TestParseOfAllLengths(t *testing.T) {
	for _, head := range heads() {
		b := head + octets(512+32768+8192+3)
		_, _, _, end, _ := told(b)
		for many := range len(b) {
			if many < 600 || many > end-600 && many < end+600 || many%97 == 0 {
				holdToWords(t, b[:many])
			}
		}
		if _, e := Parse(b[:end]); e != api.OK {
			t.Errorf("Parse of %x, and just what it asks for: %d", head, e)
		}
		if c, e := Parse(b[:end-1]); c != (api.Cart{}) || e != api.ErrBanks {
			t.Errorf("Parse of %x, cut off by one = %+v, %d", head, c, e)
		}
	}
}

func TestParseOfWhateverOctets(t *testing.T) {
	body := octets(512 + 65536 + 16384)
	state := uint32(5)
	next := func(below int) int { // a plain rule, so that each run has the same octets
		state = state*1664525 + 1013904223
		return int(state>>16) % below
	}
	for range 20000 {
		head := []byte("NES\x1a\x01\x01\x00\x00\x00\x00\x00\x00\x00\x00\x00\x00")
		for range 1 + next(6) {
			head[4+next(12)] = byte(next(256))
		}
		if next(10) == 0 {
			head[next(16)] = byte(next(256))
		}
		b := string(head) + body[:next(len(body)+1)]
		if next(50) == 0 {
			b = b[1:]
		}
		holdToWords(t, b)
	}
}

func TestParseByName(t *testing.T) {
	plain := "NES\x1a\x01\x01\x00\x00\x00\x00\x00\x00\x00\x00\x00\x00"
	body := octets(16384 + 8192)
	long := octets(512 + 524288 + 262144)
	for _, c := range []struct {
		name, octets string
		want         api.Cart
		e            api.Errno
	}{
		{"nothing", "", api.Cart{}, api.ErrHeader},
		{"15 octets", plain[:15], api.Cart{}, api.ErrHeader},
		{"16 octets", plain, api.Cart{}, api.ErrBanks},
		{"four octets", "NES\x1a", api.Cart{}, api.ErrHeader},
		{"small letters", "nes\x1a" + plain[4:] + body, api.Cart{}, api.ErrHeader},
		{"an octet ahead", " " + plain + body, api.Cart{}, api.ErrHeader},
		{"15 octets of mapper 5", "NES\x1a\x01\x01\x50\x00\x00\x00\x00\x00\x00\x00\x00", api.Cart{}, api.ErrHeader},
		{"mapper 5", changed(plain, 6, 0x50) + body, api.Cart{}, api.ErrMapper},
		{"mapper 5, and nothing behind", changed(plain, 6, 0x50), api.Cart{}, api.ErrMapper},
		{"mapper 5, of no size", changed(changed(plain, 6, 0x50), 4, 0) + body, api.Cart{}, api.ErrMapper},
		{"mapper 5, and another octet first", changed(changed(plain, 6, 0x50), 0, 'M') + body, api.Cart{}, api.ErrHeader},
		{"cut off by one", plain + body[1:], api.Cart{}, api.ErrBanks},
		{"all of it", plain + body, api.Cart{Prg: 16384, Chr: 8192}, api.OK},
		{"more behind", plain + body + "NES\x1a", api.Cart{Prg: 16384, Chr: 8192}, api.OK},
		{"a trainer that is not there", changed(plain, 6, 4) + body, api.Cart{}, api.ErrBanks},
		{"a trainer", changed(plain, 6, 4) + body + body[:512], api.Cart{Prg: 16384, Chr: 8192}, api.OK},
		{"an own one", changed(plain, 5, 0) + body[:16384], api.Cart{Prg: 16384, Chr: 8192, Own: true}, api.OK},
		{"an own one, cut off by one", changed(plain, 5, 0) + body[:16383], api.Cart{}, api.ErrBanks},
		{"bits 2 and 3 of octet 7", changed(changed(plain, 7, 12), 8, 0xff) + body, api.Cart{Prg: 16384, Chr: 8192}, api.OK},
		{"bit 2 of octet 7", changed(changed(plain, 7, 4), 9, 0xff) + body, api.Cart{Prg: 16384, Chr: 8192}, api.OK},
		{"bit 3 of octet 7", changed(changed(plain, 7, 8), 8, 0xf0) + body, api.Cart{Sub: 15, Prg: 16384, Chr: 8192, Two: true}, api.OK},
		{"its other bits", changed(plain, 7, 0x0b) + body, api.Cart{Prg: 16384, Chr: 8192, Two: true}, api.OK},
		{"all flags", changed(plain, 6, 0x7b) + body, api.Cart{Mapper: 7, Prg: 16384, Chr: 8192, Battery: true, Four: true, Vertical: true}, api.OK},
		{"the longest one", changed(changed(plain, 4, 32), 5, 32) + long[512:], api.Cart{Prg: 524288, Chr: 262144}, api.OK},
		{"the longest one, by powers", "NES\x1a\x4c\x48\x04\x08\x00\xff\x00\x00\x00\x00\x00\x00" + long, api.Cart{Prg: 524288, Chr: 262144, Two: true}, api.OK},
		{"too long a program", changed(plain, 4, 64) + long + long, api.Cart{}, api.ErrBanks},
		{"too long a picture", changed(plain, 5, 64) + long, api.Cart{}, api.ErrBanks},
		{"256 more of a program's, in octet 9", changed(changed(plain, 7, 8), 9, 1) + long, api.Cart{}, api.ErrBanks},
		{"256 more of a picture's, in octet 9", changed(changed(plain, 7, 8), 9, 16) + long, api.Cart{}, api.ErrBanks},
		{"these, of the first kind", changed(plain, 9, 17) + body, api.Cart{Prg: 16384, Chr: 8192}, api.OK},
		{"a power of 63, of the picture's", "NES\x1a\x01\xfc\x00\x08\x00\xf0\x00\x00\x00\x00\x00\x00" + body, api.Cart{}, api.ErrBanks},
		{"a power of 63, of the program's", "NES\x1a\xff\x01\x00\x08\x00\x0f\x00\x00\x00\x00\x00\x00" + body, api.Cart{}, api.ErrBanks},
		{"a picture's of one octet", "NES\x1a\x01\x00\x00\x08\x00\xf0\x00\x00\x00\x00\x00\x00" + body, api.Cart{}, api.ErrBanks},
	} {
		if got, e := Parse(c.octets); got != c.want || e != c.e {
			t.Errorf("Parse of %s = %+v, %d, want %+v, %d", c.name, got, e, c.want, c.e)
		}
		got, prg, chr, e := Split(c.octets)
		if got != c.want || e != c.e || e != api.OK && prg+chr != "" {
			t.Errorf("Split of %s = %+v, %d and %d octets, %d", c.name, got, len(prg), len(chr), e)
		}
	}
}

func TestSplitByName(t *testing.T) {
	program, picture, trainer := strings.Repeat("\xc3\xa9", 16384), strings.Repeat("\xff\x00", 8192), strings.Repeat("t", 512)
	for _, c := range []struct{ head, behind, prg, chr string }{
		{"NES\x1a\x02\x02\x10\x00\x00\x00\x00\x00\x00\x00\x00\x00", program + picture, program, picture},
		{"NES\x1a\x02\x02\x14\x00\x00\x00\x00\x00\x00\x00\x00\x00", trainer + program + picture + "more", program, picture},
		{"NES\x1a\x02\x00\x14\x00\x00\x00\x00\x00\x00\x00\x00\x00", trainer + program + picture, program, ""},
		{"NES\x1a\x02\x00\x10\x08\x00\x00\x00\x00\x00\x00\x00\x00", program, program, ""},
		{"NES\x1a\x02\x02\x10\x08\x00\x00\x00\x00\x00\x00\x00\x00", program + picture + program, program, picture},
	} {
		if _, prg, chr, e := Split(c.head + c.behind); prg != c.prg || chr != c.chr || e != api.OK {
			t.Errorf("Split of %x: %d and %d octets, %d", c.head, len(prg), len(chr), e)
		}
	}
}
