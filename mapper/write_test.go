package mapper

import (
	"math"
	"testing"

	"seepage/api"
)

// someAddrs is the edges of each place of registers, and what is around them.
func someAddrs() []uint16 {
	l := []uint16{0, 1, 0x1fff, 0x2000, 0x4001, 0x6000, 0x7ffe, 0x7fff}
	for place := 0x8000; place < 0x10000; place += 0x2000 {
		l = append(l, uint16(place), uint16(place+1), uint16(place+0x0ffe), uint16(place+0x1555), uint16(place+0x1ffe), uint16(place+0x1fff))
	}
	return l
}

// rightBehind tells whether a cycle is another one's next: behind the last one comes the least.
func rightBehind(last, now int64) bool {
	if last == math.MaxInt64 {
		return now == math.MinInt64
	}
	return now == last+1
}

// oneWritten is a mapper of kind 1 behind a write to registers, by the words.
func oneWritten(m api.Map, addr uint16, v uint8, now int64) api.Map {
	ignored := rightBehind(m.Last, now)
	m.Last = now
	if ignored {
		return m
	}
	if v > 127 {
		m.Shift, m.Count = 0, 0
		if m.Ctl/4%2 == 0 {
			m.Ctl += 4
		}
		if m.Ctl/8%2 == 0 {
			m.Ctl += 8
		}
		return m
	}
	worth := uint8(1)
	for range m.Count {
		worth *= 2
	}
	if m.Shift/worth%2 == 1 {
		m.Shift -= worth
	}
	m.Shift += v % 2 * worth
	m.Count++
	if m.Count < 5 {
		return m
	}
	switch {
	case addr < 0xa000:
		m.Ctl = m.Shift
	case addr < 0xc000:
		m.Chr0 = m.Shift
	case addr < 0xe000:
		m.Chr1 = m.Shift
	default:
		m.Prg = m.Shift
	}
	m.Shift, m.Count = 0, 0
	return m
}

// fourWritten is a mapper of kind 4 behind a write to registers, by the words.
func fourWritten(m api.Map, addr uint16, v uint8) api.Map {
	even := addr%2 == 0
	switch {
	case addr < 0xa000 && even:
		m.Sel = v
	case addr < 0xa000:
		m.R[m.Sel%8] = v
	case addr < 0xc000 && even:
		m.Mirror = v
	case addr < 0xc000:
	case addr < 0xe000 && even:
		m.Latch = v
	case addr < 0xe000:
		m.Counter = 0
		m.Reload = true
	case even:
		m.Enable = false
		m.Irq = false
	default:
		m.Enable = true
	}
	return m
}

// written is a mapper behind a write, by the words.
func written(m api.Map, addr uint16, v uint8, now int64) api.Map {
	switch {
	case addr < 32768 || m.Kind == 0:
		return m
	case m.Kind == 1:
		return oneWritten(m, addr, v, now)
	case m.Kind == 4:
		return fourWritten(m, addr, v)
	}
	m.Bank = v
	return m
}

// holdWriteToWords fails where a write to a mapper that may be does otherwise than the words.
func holdWriteToWords(t *testing.T, m api.Map, addr uint16, v uint8, now int64) {
	t.Helper()
	want := written(m, addr, v, now)
	got, e := Write(m, addr, v, now)
	if got != want || e != api.OK {
		t.Fatalf("Write(%+v, %#x, %#x, %d) = %+v, %d, want %+v", m, addr, v, now, got, e, want)
	}
	if !mayBe(got) { // P6.5
		t.Fatalf("behind Write(%+v, %#x, %#x, %d) it may not be: %+v", m, addr, v, now, got)
	}
}

// mustWrite is a mapper behind a write that is done.
func mustWrite(t *testing.T, m api.Map, addr uint16, v uint8, now int64) api.Map {
	t.Helper()
	x, e := Write(m, addr, v, now)
	if e != api.OK || Check(x) != api.OK {
		t.Fatalf("Write(%+v, %#x, %#x, %d) = %+v, %d", m, addr, v, now, x, e)
	}
	return x
}

// fresh is a new mapper.
func fresh(t *testing.T, kind int) api.Map {
	t.Helper()
	m, e := New(api.Cart{Mapper: kind, Prg: 32768, Chr: 8192})
	if e != api.OK {
		t.Fatalf("New of kind %d: %d", kind, e)
	}
	return m
}

// P6.2

func TestWriteToAllAddresses(t *testing.T) {
	c := &chance{2}
	for _, kind := range knownKinds() {
		m := c.mapper()
		m.Kind, m.Count, m.Last = kind, 4, 0
		for addr := range 65536 {
			holdWriteToWords(t, m, uint16(addr), 0x2b, 9)
			holdWriteToWords(t, m, uint16(addr), 0xd4, 9)
		}
	}
}

func TestWriteOfAllOctets(t *testing.T) {
	c := &chance{3}
	for _, kind := range knownKinds() {
		for range 30 {
			m := c.mapper()
			m.Kind = kind
			for v := range 256 {
				for _, addr := range someAddrs() {
					holdWriteToWords(t, m, addr, uint8(v), 5)
				}
			}
		}
	}
}

func TestWriteOfAllBits(t *testing.T) {
	for shift := range 32 {
		for count := range 5 {
			for ctl := range 32 {
				m := api.Map{Kind: 1, Shift: uint8(shift), Count: uint8(count), Ctl: uint8(ctl), Chr0: 7, Chr1: 9, Prg: 21, Last: 40}
				for _, v := range []uint8{0, 1, 0x7e, 0x7f, 0x80, 0x81, 0xfe, 0xff} {
					for _, addr := range someAddrs() {
						for _, now := range []int64{39, 40, 41, 42} {
							holdWriteToWords(t, m, addr, v, now)
						}
					}
				}
			}
		}
	}
}

func TestWriteAtAllTimes(t *testing.T) {
	for _, last := range farTimes() {
		for _, now := range farTimes() {
			for step := int64(-2); step < 3; step++ {
				m := fresh(t, 1)
				m.Last = last
				for _, v := range []uint8{0, 1, 0xff} {
					holdWriteToWords(t, m, 0x8000, v, now+step)
					holdWriteToWords(t, m, 0xffff, v, last+step)
				}
			}
		}
	}
}

func TestWriteToEachOfTheEight(t *testing.T) {
	for sel := range 256 {
		m := mustWrite(t, fresh(t, 4), 0x8000, uint8(sel), 0)
		m = mustWrite(t, m, 0x9fff, 0xa5, 1)
		want := api.Map{Kind: 4, Ctl: 12, Last: -2, Sel: uint8(sel)}
		want.R[sel&7] = 0xa5
		if m != want {
			t.Errorf("behind 0xa5 written by Sel %#x: %+v", sel, m)
		}
	}
}

func TestWriteToWhateverMapper(t *testing.T) {
	c := &chance{5}
	for range 200000 {
		m := c.mapper()
		now := farTimes()[c.below(len(farTimes()))]
		if c.flag() {
			now = m.Last + int64(c.below(4)) - 1
		}
		holdWriteToWords(t, m, uint16(c.below(65536)), c.octet(), now)
	}
}

func TestWriteToOneThatMayNotBe(t *testing.T) {
	c := &chance{6}
	for range 200 {
		m := c.mapper()
		for _, x := range wrongs(m) {
			for _, addr := range []uint16{0, 0x7fff, 0x8000, 0xa001, 0xffff} {
				for _, now := range []int64{x.Last, x.Last + 1, 77} {
					if got, e := Write(x, addr, c.octet(), now); got != x || e != api.ErrArg {
						t.Fatalf("Write(%+v, %#x) = %+v, %d, want ErrArg, and it as it was", x, addr, got, e)
					}
				}
			}
		}
	}
}

func TestWriteByName(t *testing.T) {
	full := api.Map{Kind: 1, Shift: 11, Count: 4, Ctl: 12, Last: 6}
	wired := api.Map{Kind: 1, Shift: 31, Ctl: 0, Last: 6}
	four := api.Map{Kind: 4, Sel: 0xfb, Counter: 3, Irq: true, Enable: true, Latch: 9}
	for _, c := range []struct {
		name string
		m    api.Map
		addr uint16
		v    uint8
		now  int64
		want api.Map
	}{
		{"kind 0", api.Map{Last: 6}, 0x8000, 255, 7, api.Map{Last: 6}},
		{"kind 2", api.Map{Kind: 2}, 32768, 5, 7, api.Map{Kind: 2, Bank: 5}},
		{"kind 3", api.Map{Kind: 3, Bank: 9}, 0xffff, 255, 0, api.Map{Kind: 3, Bank: 255}},
		{"kind 7", api.Map{Kind: 7, Bank: 9}, 0x9000, 0, 0, api.Map{Kind: 7}},
		{"below the registers", api.Map{Kind: 7, Bank: 9}, 32767, 0, 0, api.Map{Kind: 7, Bank: 9}},
		{"below the registers of kind 1", full, 32767, 255, 7, full},
		{"right behind", full, 0x8000, 1, 7, api.Map{Kind: 1, Shift: 11, Count: 4, Ctl: 12, Last: 7}},
		{"right behind, with bit 7", full, 0x8000, 0x80, 7, api.Map{Kind: 1, Shift: 11, Count: 4, Ctl: 12, Last: 7}},
		{"at once", full, 0x8000, 1, 6, api.Map{Kind: 1, Ctl: 27, Last: 6}},
		{"ahead", full, 0xbfff, 0, 5, api.Map{Kind: 1, Ctl: 12, Chr0: 11, Last: 5}},
		{"a cycle between", full, 0xc000, 0x7f, 8, api.Map{Kind: 1, Ctl: 12, Chr1: 27, Last: 8}},
		{"long behind", full, 0xe000, 2, math.MaxInt64, api.Map{Kind: 1, Ctl: 12, Prg: 11, Last: math.MaxInt64}},
		{"thrown away", wired, 0xe000, 0x81, 8, api.Map{Kind: 1, Ctl: 12, Last: 8}},
		{"a bit that was set", wired, 0xe000, 0, 8, api.Map{Kind: 1, Shift: 30, Count: 1, Last: 8}},
		{"kind 4, Sel", four, 0x8000, 1, 8, api.Map{Kind: 4, Sel: 1, Counter: 3, Irq: true, Enable: true, Latch: 9}},
		{"kind 4, R", four, 0x8001, 1, 8, api.Map{Kind: 4, Sel: 0xfb, R: [8]uint8{3: 1}, Counter: 3, Irq: true, Enable: true, Latch: 9}},
		{"kind 4, Mirror", four, 0xbffe, 3, 8, api.Map{Kind: 4, Sel: 0xfb, Mirror: 3, Counter: 3, Irq: true, Enable: true, Latch: 9}},
		{"kind 4, nothing", four, 0xa001, 3, 8, four},
		{"kind 4, Latch", four, 0xc000, 3, 8, api.Map{Kind: 4, Sel: 0xfb, Counter: 3, Irq: true, Enable: true, Latch: 3}},
		{"kind 4, Reload", four, 0xdfff, 3, 8, api.Map{Kind: 4, Sel: 0xfb, Reload: true, Irq: true, Enable: true, Latch: 9}},
		{"kind 4, not enabled", four, 0xe000, 3, 8, api.Map{Kind: 4, Sel: 0xfb, Counter: 3, Latch: 9}},
		{"kind 4, enabled", api.Map{Kind: 4}, 0xffff, 0, 8, api.Map{Kind: 4, Enable: true}},
		{"kind 4, enabled still", four, 0xe001, 0, 8, four},
	} {
		if got, e := Write(c.m, c.addr, c.v, c.now); got != c.want || e != api.OK {
			t.Errorf("Write of %s = %+v, %d, want %+v", c.name, got, e, c.want)
		}
	}
}

// P6.5

func TestFiveBitsAreARegisters(t *testing.T) {
	for value := range 32 {
		for _, addr := range []uint16{0x8000, 0x9fff, 0xa000, 0xbfff, 0xc000, 0xdfff, 0xe000, 0xffff} {
			for _, gap := range []int64{-7, -1, 0, 2, 3, 1 << 40} {
				for _, above := range []uint8{0, 0x7e, 0x54} {
					m, now := fresh(t, 1), int64(100)
					want := m
					for bit := range 5 {
						m = mustWrite(t, m, addr, above|uint8(value)>>bit&1, now)
						want.Last = now
						now += gap
					}
					*[]*uint8{&want.Ctl, &want.Chr0, &want.Chr1, &want.Prg}[(addr-0x8000)/0x2000] = uint8(value)
					if m != want {
						t.Fatalf("five bits of %d, to %#x, %d apart: %+v", value, addr, gap, m)
					}
				}
			}
		}
	}
}

func TestBitsRightBehindDoNotCount(t *testing.T) {
	for value := range 32 {
		m, now := fresh(t, 1), int64(0)
		for bit := range 5 {
			m = mustWrite(t, m, 0xe000, uint8(value)>>bit&1, now)
			for range bit { // a row of them: each is right behind the one that didn't count
				now++
				m = mustWrite(t, m, 0x8000, 0xff, now)
			}
			now += 2
		}
		if want := (api.Map{Kind: 1, Ctl: 12, Prg: uint8(value), Last: now - 2}); m != want {
			t.Errorf("five bits of %d, and others right behind: %+v", value, m)
		}
	}
}

func TestTheRegisterIsTheLastWritesOne(t *testing.T) {
	m := fresh(t, 1)
	for at, addr := range []uint16{0x8000, 0xa000, 0xc000, 0x8000, 0xe000} {
		m = mustWrite(t, m, addr, uint8(at), int64(3*at))
	}
	if want := (api.Map{Kind: 1, Ctl: 12, Prg: 10, Last: 12}); m != want {
		t.Errorf("bits to all registers: %+v, want %+v", m, want)
	}
}

func TestBitsThatAreThrownAway(t *testing.T) {
	for first := range 5 {
		m := fresh(t, 1)
		m.Ctl = 16
		for bit := range first {
			m = mustWrite(t, m, 0xa000, 1, int64(2*bit))
		}
		m = mustWrite(t, m, 0xa000, 0x80, 50)
		for bit, v := range []uint8{0, 1, 1, 0, 1} {
			m = mustWrite(t, m, 0xa000, v, int64(60+2*bit))
		}
		if want := (api.Map{Kind: 1, Ctl: 28, Chr0: 22, Last: 68}); m != want {
			t.Errorf("five bits behind %d that are thrown away: %+v, want %+v", first, m, want)
		}
	}
}
