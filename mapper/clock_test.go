package mapper

import (
	"testing"

	"seepage/api"
)

// clocked is a mapper behind a dot, by the words.
func clocked(m api.Map, a12 bool) api.Map {
	switch {
	case m.Kind != 4:
		return m
	case !a12 && m.Low == 100:
		return m
	case !a12:
		m.Low++
		return m
	case m.Low < 8:
		m.Low = 0
		return m
	}
	left := int(m.Counter) - 1
	if m.Reload || left < 0 {
		left = int(m.Latch)
	}
	m.Counter = uint8(left)
	m.Reload = false
	m.Irq = m.Irq || m.Enable && left == 0
	m.Low = 0
	return m
}

// holdClockToWords fails where a dot of a mapper that may be does otherwise than the words.
func holdClockToWords(t *testing.T, m api.Map, a12 bool) {
	t.Helper()
	want := clocked(m, a12)
	got, e := Clock(m, a12)
	if got != want || e != api.OK {
		t.Fatalf("Clock(%+v, %v) = %+v, %d, want %+v", m, a12, got, e, want)
	}
	if !mayBe(got) { // P6.5
		t.Fatalf("behind Clock(%+v, %v) it may not be: %+v", m, a12, got)
	}
}

// dots is a mapper behind so many dots with A12 as it is told.
func dots(t *testing.T, m api.Map, a12 bool, many int) api.Map {
	t.Helper()
	for range many {
		x, e := Clock(m, a12)
		if e != api.OK || Check(x) != api.OK {
			t.Fatalf("Clock(%+v, %v) = %+v, %d", m, a12, x, e)
		}
		m = x
	}
	return m
}

// P6.3

func TestClockOfAllCounters(t *testing.T) {
	for counter := range 256 {
		for latch := range 256 {
			for bits := range 8 {
				m := api.Map{Kind: 4, Counter: uint8(counter), Latch: uint8(latch), Reload: bits&1 != 0, Enable: bits&2 != 0, Irq: bits&4 != 0}
				for _, low := range []int{0, 7, 8, 100} {
					m.Low = low
					holdClockToWords(t, m, true)
				}
				holdClockToWords(t, m, false)
			}
		}
	}
}

func TestClockOfAllLows(t *testing.T) {
	c := &chance{7}
	for _, kind := range knownKinds() {
		for low := range 101 {
			for range 50 {
				m := c.mapper()
				m.Kind, m.Low = kind, low
				holdClockToWords(t, m, true)
				holdClockToWords(t, m, false)
			}
		}
	}
}

func TestClockOfWhateverMapper(t *testing.T) {
	c := &chance{8}
	for range 200000 {
		holdClockToWords(t, c.mapper(), c.flag())
	}
}

func TestClockOfOneThatMayNotBe(t *testing.T) {
	c := &chance{9}
	for range 200 {
		m := c.mapper()
		for _, x := range wrongs(m) {
			for _, a12 := range []bool{false, true} {
				if got, e := Clock(x, a12); got != x || e != api.ErrArg {
					t.Fatalf("Clock(%+v, %v) = %+v, %d, want ErrArg, and it as it was", x, a12, got, e)
				}
			}
		}
	}
}

func TestClockByName(t *testing.T) {
	m := api.Map{Kind: 4, Latch: 5, Counter: 2, Enable: true, Low: 8}
	for _, c := range []struct {
		name string
		m    api.Map
		a12  bool
		want api.Map
	}{
		{"of another kind", api.Map{Kind: 1, Low: 8, Enable: true}, true, api.Map{Kind: 1, Low: 8, Enable: true}},
		{"of another kind, low", api.Map{Kind: 0, Low: 8}, false, api.Map{Kind: 0, Low: 8}},
		{"low", m, false, api.Map{Kind: 4, Latch: 5, Counter: 2, Enable: true, Low: 9}},
		{"low for long", api.Map{Kind: 4, Low: 99}, false, api.Map{Kind: 4, Low: 100}},
		{"low for longer", api.Map{Kind: 4, Low: 100}, false, api.Map{Kind: 4, Low: 100}},
		{"a rise", m, true, api.Map{Kind: 4, Latch: 5, Counter: 1, Enable: true}},
		{"no rise", api.Map{Kind: 4, Latch: 5, Counter: 1, Enable: true, Reload: true, Low: 7}, true, api.Map{Kind: 4, Latch: 5, Counter: 1, Enable: true, Reload: true}},
		{"the last rise", api.Map{Kind: 4, Latch: 5, Counter: 1, Enable: true, Low: 100}, true, api.Map{Kind: 4, Latch: 5, Enable: true, Irq: true}},
		{"the last rise, not enabled", api.Map{Kind: 4, Latch: 5, Counter: 1, Low: 8}, true, api.Map{Kind: 4, Latch: 5}},
		{"one behind it", api.Map{Kind: 4, Latch: 5, Enable: true, Low: 8}, true, api.Map{Kind: 4, Latch: 5, Counter: 5, Enable: true}},
		{"one behind it, with Latch 0", api.Map{Kind: 4, Enable: true, Low: 8}, true, api.Map{Kind: 4, Enable: true, Irq: true}},
		{"loaded anew", api.Map{Kind: 4, Latch: 5, Counter: 1, Enable: true, Reload: true, Low: 8}, true, api.Map{Kind: 4, Latch: 5, Counter: 5, Enable: true}},
		{"loaded anew with 0", api.Map{Kind: 4, Counter: 9, Enable: true, Reload: true, Low: 8}, true, api.Map{Kind: 4, Enable: true, Irq: true}},
		{"an Irq stays", api.Map{Kind: 4, Latch: 5, Counter: 3, Irq: true, Low: 8}, true, api.Map{Kind: 4, Latch: 5, Counter: 2, Irq: true}},
	} {
		if got, e := Clock(c.m, c.a12); got != c.want || e != api.OK {
			t.Errorf("Clock of %s = %+v, %d, want %+v", c.name, got, e, c.want)
		}
	}
}

// P6.5

func TestRisesAreCounted(t *testing.T) {
	for latch := range 256 {
		for _, low := range []int{8, 9, 150} {
			m := mustWrite(t, fresh(t, 4), 0xc000, uint8(latch), 0)
			m.Counter = 77 // what was left plays no part
			m = mustWrite(t, m, 0xc001, 0, 1)
			m = mustWrite(t, m, 0xe001, 0, 2)
			for rise := 1; rise <= latch+1; rise++ {
				if m.Irq {
					t.Fatalf("with Latch %d, an Irq came ahead of rise %d", latch, rise)
				}
				m = dots(t, m, false, low)
				m = dots(t, m, true, 1+rise%3)
				m = dots(t, m, false, 7) // a short low is no rise's
				m = dots(t, m, true, 2)
			}
			if !m.Irq {
				t.Fatalf("with Latch %d, no Irq came with rise %d", latch, latch+1)
			}
		}
	}
}

func TestAMapperThatMayBeStaysOne(t *testing.T) {
	c := &chance{10}
	for range 2000 {
		m := c.mapper()
		kind, vertical, four := m.Kind, m.Vertical, m.Four
		for range 200 {
			before, e := m, api.OK
			if c.flag() {
				m, e = Write(m, uint16(c.below(65536)), c.octet(), m.Last+int64(c.below(4)))
			} else {
				m, e = Clock(m, c.below(9) == 0)
			}
			if e != api.OK || !mayBe(m) || Check(m) != api.OK || m.Kind != kind || m.Vertical != vertical || m.Four != four {
				t.Fatalf("of %+v comes %+v, %d", before, m, e)
			}
		}
	}
}
