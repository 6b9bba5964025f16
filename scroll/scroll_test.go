package scroll

import (
	"testing"

	"seepage/api"
)

// parts is an address, part by part, as the chapter's words have it.
type parts struct{ x, y, across, down, fine int }

// split is an address's parts.
func split(v uint16) parts {
	n := int(v)
	return parts{x: n % 32, y: n / 32 % 32, across: n / 1024 % 2, down: n / 2048 % 2, fine: n / 4096}
}

// join is the address of parts.
func (p parts) join() uint16 {
	return uint16(p.x + 32*p.y + 1024*p.across + 2048*p.down + 4096*p.fine)
}

// someAddresses is some in which each bit is set, and isn't, and parts are at their ends.
func someAddresses() []uint16 {
	return []uint16{0, 0x7fff, 0x2aaa, 0x5555, 0x1234, 0x6bcd, 0x001f, 0x03a0, 0x03e0, 0x0400, 0x0800, 0x7000}
}

// eachRest calls f with scrolls of V and T, with all X, and with W or not.
func eachRest(v, t uint16, f func(s api.Scroll)) {
	for x := range 8 {
		f(api.Scroll{V: v, T: t, X: uint8(x)})
		f(api.Scroll{V: v, T: t, X: uint8(x), W: true})
	}
}

// everyV calls f with all V, beside some T, and all of the rest.
func everyV(f func(s api.Scroll)) {
	for v := range 32768 {
		for _, t := range someAddresses() {
			eachRest(uint16(v), t, f)
		}
	}
}

// everyT calls f with all T, beside some V, and all of the rest.
func everyT(f func(s api.Scroll)) {
	for t := range 32768 {
		for _, v := range someAddresses() {
			eachRest(v, uint16(t), f)
		}
	}
}

// everyOctet calls f with all T, all octets, and W or not, beside some V and X.
func everyOctet(f func(s api.Scroll, v uint8)) {
	some := someAddresses()
	for t := range 32768 {
		for v := range 256 {
			s := api.Scroll{V: some[(t+v)%len(some)], T: uint16(t), X: uint8((t/7 + v) % 8)}
			f(s, uint8(v))
			s.W = true
			f(s, uint8(v))
		}
	}
}

// everyRest calls f with all V, beside some T, and with all T, beside some V, each with all X, with W or not, and some octets.
func everyRest(f func(s api.Scroll, v uint8)) {
	for _, v := range []uint8{0, 0x5a, 0xff} {
		everyV(func(s api.Scroll) { f(s, v) })
		everyT(func(s api.Scroll) { f(s, v) })
	}
}

// holdTo fails where a scroll behind a call is another one. It is asked millions of times, so it looks for its caller only then.
func holdTo(t *testing.T, what string, s api.Scroll, got api.Scroll, e api.Errno, want api.Scroll) {
	if got != want || e != api.OK {
		t.Helper()
		t.Fatalf("%s of %+v: %+v, %d, want %+v", what, s, got, e, want)
	}
}

// P12.1

// holdToCheck fails where Check of a scroll says otherwise than the words.
func holdToCheck(t *testing.T, s api.Scroll) {
	want := api.ErrArg
	if s.V < 32768 && s.T < 32768 && s.X < 8 {
		want = api.OK
	}
	if got := Check(s); got != want {
		t.Helper()
		t.Fatalf("Check(%+v) = %d, want %d", s, got, want)
	}
}

func TestCheckOfEachPart(t *testing.T) {
	for n := range 65536 {
		for _, other := range []uint16{0, 32767, 32768, 65535} {
			for _, x := range []uint8{0, 7, 8, 255} {
				for _, w := range []bool{false, true} {
					holdToCheck(t, api.Scroll{V: uint16(n), T: other, X: x, W: w})
					holdToCheck(t, api.Scroll{V: other, T: uint16(n), X: x, W: w})
					holdToCheck(t, api.Scroll{V: uint16(n), T: other, X: uint8(n), W: w})
				}
			}
		}
	}
}

func TestControl(t *testing.T) {
	hold := func(s api.Scroll, v uint8) {
		p := split(s.T)
		p.across, p.down = int(v%2), int(v/2%2)
		want := s
		want.T = p.join()
		got, e := Control(s, v)
		holdTo(t, "Control", s, got, e, want)
	}
	everyOctet(hold)
	everyRest(hold)
}

func TestStatus(t *testing.T) {
	hold := func(s api.Scroll) {
		want := s
		want.W = false
		got, e := Status(s)
		holdTo(t, "Status", s, got, e, want)
	}
	everyV(hold)
	everyT(hold)
}

// P12.2

// writeWords is a scroll behind Write, by the words.
func writeWords(s api.Scroll, v uint8) api.Scroll {
	p := split(s.T)
	if !s.W {
		p.x = int(v) / 8
		return api.Scroll{V: s.V, T: p.join(), X: v % 8, W: true}
	}
	p.y, p.fine = int(v)/8, int(v)%8
	return api.Scroll{V: s.V, T: p.join(), X: s.X}
}

// addrWords is a scroll behind Addr, by the words.
func addrWords(s api.Scroll, v uint8) api.Scroll {
	if !s.W {
		return api.Scroll{V: s.V, T: s.T%256 + 256*uint16(v%64), X: s.X, W: true}
	}
	both := s.T/256*256 + uint16(v)
	return api.Scroll{V: both, T: both, X: s.X}
}

func TestWrite(t *testing.T) {
	hold := func(s api.Scroll, v uint8) {
		got, e := Write(s, v)
		holdTo(t, "Write", s, got, e, writeWords(s, v))
	}
	everyOctet(hold)
	everyRest(hold)
}

func TestAddr(t *testing.T) {
	hold := func(s api.Scroll, v uint8) {
		got, e := Addr(s, v)
		holdTo(t, "Addr", s, got, e, addrWords(s, v))
	}
	everyOctet(hold)
	everyRest(hold)
}

// Both know which octet is next by one W, that Status takes back.
func TestWriteAndAddrShareW(t *testing.T) {
	s := api.Scroll{V: 0x1111, T: 0x7fff, X: 2}
	for i, c := range []struct {
		does func(s api.Scroll, v uint8) (api.Scroll, api.Errno)
		v    uint8
		want api.Scroll
	}{
		{Write, 0x0b, api.Scroll{V: 0x1111, T: 0x7fe1, X: 3, W: true}},
		{Addr, 0x22, api.Scroll{V: 0x7f22, T: 0x7f22, X: 3}},
		{Addr, 0xc1, api.Scroll{V: 0x7f22, T: 0x0122, X: 3, W: true}},
		{Write, 0x0b, api.Scroll{V: 0x7f22, T: 0x3022, X: 3}},
		{Addr, 0x05, api.Scroll{V: 0x7f22, T: 0x0522, X: 3, W: true}},
		{func(s api.Scroll, _ uint8) (api.Scroll, api.Errno) { return Status(s) }, 0, api.Scroll{V: 0x7f22, T: 0x0522, X: 3}},
		{Addr, 0x06, api.Scroll{V: 0x7f22, T: 0x0622, X: 3, W: true}},
	} {
		next, e := c.does(s, c.v)
		if next != c.want || e != api.OK {
			t.Errorf("%d: %+v, %d, want %+v", i, next, e, c.want)
		}
		s = next
	}
}

// The chapter's examples.

func TestExamples(t *testing.T) {
	s, _ := Write(api.Scroll{}, 125)
	s, e := Write(s, 94)
	holdTo(t, "Write", api.Scroll{}, s, e, api.Scroll{T: 24943, X: 5})
	s, _ = Addr(api.Scroll{}, 61)
	s, e = Addr(s, 240)
	holdTo(t, "Addr", api.Scroll{}, s, e, api.Scroll{V: 15856, T: 15856})
	s, e = Right(api.Scroll{V: 31})
	holdTo(t, "Right", api.Scroll{V: 31}, s, e, api.Scroll{V: 1024})
}
