package core

import (
	"slices"
	"testing"

	"seepage/api"
	"seepage/label"
	"seepage/opcode"
)

// P10.4

// long is how many cycles an instruction at 0200 takes, or 0, if it is at no end behind ten.
func long(t *testing.T, c api.Cpu, m map[uint16]api.Byte) int {
	t.Helper()
	for n := 1; n <= 10; n++ {
		c, _ = cycle(t, c, m, api.Lines{})
		if c.T == 0 {
			return n
		}
	}
	return 0
}

func TestCyclesAreAsManyAsTold(t *testing.T) {
	for op := range 256 {
		o := opcode.Decode(uint8(op))
		if o.Mode == api.RelM {
			continue
		}
		for _, index := range []uint8{0, 0xff} { // at an address that ends in 10, which is over a page by the greater one alone
			c := api.Cpu{PC: 0x200, X: api.Byte{V: index}, Y: api.Byte{V: index}, S: api.Byte{V: 0x80}}
			m := map[uint16]api.Byte{0x200: {V: uint8(op)}, 0x201: {V: 0x10}, 0x202: {V: 0x10}}
			for at := range uint16(0x100) {
				m[at] = api.Byte{V: 0x10}
			}
			want := o.Cycles
			if o.Cross && index > 0 {
				want++
			}
			if n := long(t, c, m); n != want {
				t.Errorf("%s (%x) with %d takes %d cycles, want %d", o.Name, op, index, n, want)
			}
		}
	}
}

func TestBranchesTakeAsManyCyclesAsTold(t *testing.T) {
	for op := 0x10; op < 256; op += 0x20 {
		for far := -128; far < 128; far++ {
			m := map[uint16]api.Byte{0x200: {V: uint8(op)}, 0x201: {V: uint8(far)}}
			for _, p := range []uint8{0, 207} {
				taken := (p > 0) == (op&0x20 > 0) // all flags are set, or none
				over := 0x202+far < 0x200
				want := opcode.Decode(uint8(op)).Cycles
				if taken {
					want++
				}
				if taken && over {
					want++
				}
				if n := long(t, api.Cpu{PC: 0x200, F: api.Flags{P: p}}, m); n != want {
					t.Errorf("%x by %d with the flags %x takes %d cycles, want %d", op, far, p, n, want)
				}
			}
		}
	}
}

// holdTwins fails where two that are alike, told what is alike, don't ask for the same, or aren't alike then, though neither's Ctl is set.
func holdTwins(t *testing.T, a, b api.Cpu, va, vb api.Byte, l api.Lines) (api.Cpu, api.Cpu) {
	t.Helper()
	askedA, askedB := Ask(a), Ask(b)
	nextA, _ := Take(a, va, l)
	nextB, _ := Take(b, vb, l)
	if nextA.Ctl != nextB.Ctl {
		t.Fatalf("of %+v and %+v, told %v and %v, a secret tells one: %+v, %+v", a, b, va, vb, nextA, nextB)
	}
	if nextA.Ctl {
		return nextA, nextB
	}
	if askedA.Addr != askedB.Addr || askedA.Write != askedB.Write || askedA.Secret || askedB.Secret || !label.Alike(askedA.V, askedB.V) {
		t.Fatalf("%+v and %+v ask for %+v and %+v", a, b, askedA, askedB)
	}
	if !Alike(nextA, nextB) {
		t.Fatalf("of %+v and %+v, told %v and %v: %+v, %+v", a, b, va, vb, nextA, nextB)
	}
	return nextA, nextB
}

func TestTwinsInEachTurn(t *testing.T) {
	chance := chance(3)
	quiet := 0
	everyTurn(func(op uint8, turn int) {
		for range 300 {
			a := chance.cpu(op, turn, true)
			a.Ctl = false
			b := chance.twin(a)
			v, l := chance.part(true), chance.lines()
			if next, _ := holdTwins(t, a, b, v, chance.other(v), l); !next.Ctl {
				quiet++
			}
			waitA, _ := Wait(a, l)
			waitB, _ := Wait(b, l)
			if waitA.Ctl != waitB.Ctl || !waitA.Ctl && !Alike(waitA, waitB) {
				t.Fatalf("%+v and %+v wait: %+v, %+v", a, b, waitA, waitB)
			}
		}
	})
	if quiet < 1000 {
		t.Errorf("only %d were told by no secret", quiet)
	}
}

// wild is memory of all kinds of octets, some of them secret, but for JAM.
func (c *chance) wild() (first, second []api.Byte) {
	first = make([]api.Byte, 65536)
	for i := range first {
		v := c.octet()
		if opcode.Decode(v).Mode == api.JamM {
			v = 0xea
		}
		first[i] = api.Byte{V: v, S: c.below(256) < 8}
	}
	second = slices.Clone(first)
	for i := range second {
		second[i] = c.other(second[i])
	}
	return first, second
}

// TestTwinsThroughPrograms plays two over memories that are alike, until a secret tells.
func TestTwinsThroughPrograms(t *testing.T) {
	chance := chance(4)
	first, second := chance.wild()
	long := 0
	for range 3000 {
		a := usual
		a.PC, a.A.S, a.X.S = uint16(chance.octet())*256+uint16(chance.octet()), chance.seldom(), chance.below(16) == 0
		b := chance.twin(a)
		m, n := slices.Clone(first[:0x400]), slices.Clone(second[:0x400])
		cell := func(low, all []api.Byte, bus api.Bus) api.Byte { // only what is below 0400 can be written
			if int(bus.Addr) >= len(low) {
				return all[bus.Addr]
			}
			if bus.Write {
				low[bus.Addr] = bus.V
			}
			return low[bus.Addr]
		}
		played := 0
		for ; played < 200 && !a.Ctl; played++ {
			va, vb := cell(m, first, Ask(a)), cell(n, second, Ask(b))
			a, b = holdTwins(t, a, b, va, vb, chance.lines())
		}
		if played == 200 {
			long++
		}
	}
	if long < 20 {
		t.Errorf("only %d programs went on for long without that a secret told", long)
	}
}

func TestNoLabelChangesAValue(t *testing.T) {
	chance := chance(5)
	everyTurn(func(op uint8, turn int) {
		for range 200 {
			c, v, l := chance.cpu(op, turn, true), chance.part(true), chance.lines()
			with, without := Ask(c), Ask(Erase(c))
			with.V, with.Secret = label.Erase(with.V), false
			if with != without {
				t.Fatalf("%+v asks for %+v, and erased for %+v", c, with, without)
			}
			labelled, _ := Take(c, v, l)
			erased, _ := Take(Erase(c), label.Erase(v), l)
			if Erase(labelled) != erased {
				t.Fatalf("%+v, told %v, becomes %+v, and erased %+v", c, v, labelled, erased)
			}
			labelled, _ = Wait(c, l)
			erased, _ = Wait(Erase(c), l)
			if Erase(labelled) != erased {
				t.Fatalf("%+v waits: %+v, and erased %+v", c, labelled, erased)
			}
		}
	})
}

// Without secrets there is none, and nothing is told of one.
func TestOfWhatIsLowNothingIsSecret(t *testing.T) {
	chance := chance(6)
	everyTurn(func(op uint8, turn int) {
		for range 50 {
			c := chance.cpu(op, turn, false)
			if b := Ask(c); b.Secret || b.V.S {
				t.Fatalf("%+v asks for %+v", c, b)
			}
			if got, _ := Take(c, chance.part(false), chance.lines()); got != Erase(got) {
				t.Fatalf("%+v becomes %+v", c, got)
			}
		}
	})
}

// What may be stays what may be.
func TestWhatMayBeStaysSo(t *testing.T) {
	chance := chance(7)
	everyTurn(func(op uint8, turn int) {
		for range 50 {
			c := chance.cpu(op, turn, true)
			next, e := Take(c, chance.part(true), chance.lines())
			waits, f := Wait(c, chance.lines())
			if e != api.OK || f != api.OK || Check(next) != api.OK || Check(waits) != api.OK {
				t.Fatalf("%+v becomes %+v, and waits as %+v", c, next, waits)
			}
		}
	})
}

// multiply is a program that multiplies A by X, into 10 and 11.
const multiply = "0200: 85 12 86 13 a9 00 85 10 a2 08 46 13 90 03 18 65 12 6a 66 10 ca d0 f3 85 11 02"

func TestAProgram(t *testing.T) {
	for a := 0; a < 256; a += 5 {
		for x := 0; x < 256; x += 7 {
			c := api.Cpu{PC: 0x200, A: api.Byte{V: uint8(a)}, X: api.Byte{V: uint8(x)}, S: api.Byte{V: 0xff}}
			m := memory(t, multiply)
			for n := 0; n < 1000 && !c.Jam; n++ {
				c, _ = cycle(t, c, m, api.Lines{})
			}
			if got := int(m[0x10].V) + 256*int(m[0x11].V); got != a*x || !c.Jam || c.Ctl {
				t.Fatalf("%d times %d is %d: %+v", a, x, got, c)
			}
		}
	}
}

// By a secret X the program asks which of its bits are set, and that tells; a secret A is worked on, and tells nothing.
func TestAProgramOnSecrets(t *testing.T) {
	for _, secretX := range []bool{false, true} {
		c := api.Cpu{PC: 0x200, A: api.Byte{V: 77, S: !secretX}, X: api.Byte{V: 99, S: secretX}, S: api.Byte{V: 0xff}}
		m := memory(t, multiply)
		for n := 0; n < 1000 && !c.Jam; n++ {
			c, _ = cycle(t, c, m, api.Lines{})
		}
		if got := int(m[0x10].V) + 256*int(m[0x11].V); got != 77*99 || c.Ctl != secretX || !m[0x11].S && !secretX {
			t.Errorf("a secret X %v: %d, %+v", secretX, got, c)
		}
	}
}
