package core

import (
	"testing"

	"seepage/api"
)

// P10.3: when interrupts are seen, and answered.

// begun is a processor's turn in which an instruction began, and by what it was interrupted.
type begun struct {
	pc   uint16
	intr int
}

// listen plays cycles with lines, and tells what began.
func listen(t *testing.T, c api.Cpu, m map[uint16]api.Byte, n int, lines func(i int) api.Lines) (api.Cpu, []begun) {
	t.Helper()
	var l []begun
	for i := range n {
		if c.T == 0 {
			l = append(l, begun{c.PC, c.Intr})
		}
		c, _ = cycle(t, c, m, lines(i))
	}
	return c, l
}

// hold fails where what began isn't as told.
func hold(t *testing.T, what string, got []begun, want ...begun) {
	t.Helper()
	for i, w := range want {
		if i >= len(got) || got[i] != w {
			t.Errorf("%s: %x began, want %x", what, got, want)
			return
		}
	}
}

// idle is NOPs from 0200, and from where interrupts lead: an irq to 0300, an nmi to 0400, a reset to 0500.
func idle(t *testing.T) map[uint16]api.Byte {
	m := memory(t, "fffa: 00 04 00 05 00 03")
	for at := uint16(0x200); at < 0x600; at++ {
		m[at] = api.Byte{V: 0xea}
	}
	return m
}

// from is lines that are given from a cycle on, to ahead of another one.
func from(first, behind int, l api.Lines) func(int) api.Lines {
	return func(i int) api.Lines {
		if i >= first && i < behind {
			return l
		}
		return api.Lines{}
	}
}

var irq, nmi, reset = api.Lines{Irq: true}, api.Lines{Nmi: true}, api.Lines{Reset: true}

// An irq must be there behind an instruction's last cycle but one.
func TestIrqs(t *testing.T) {
	usual := usual
	_, l := listen(t, usual, idle(t), 14, from(0, 1, irq))
	hold(t, "an irq in a first cycle", l, begun{0x200, 0}, begun{0x201, 1}, begun{0x300, 0}, begun{0x301, 0})
	_, l = listen(t, usual, idle(t), 16, from(1, 2, irq))
	hold(t, "an irq in a last cycle alone", l, begun{0x200, 0}, begun{0x201, 0}, begun{0x202, 0})
	_, l = listen(t, usual, idle(t), 16, from(1, 3, irq))
	hold(t, "an irq in a last cycle, and on", l, begun{0x200, 0}, begun{0x201, 0}, begun{0x202, 1}, begun{0x300, 0})
	_, l = listen(t, usual, idle(t), 30, from(0, 99, irq))
	hold(t, "an irq that stays", l, begun{0x200, 0}, begun{0x201, 1}, begun{0x300, 0}, begun{0x301, 0}, begun{0x302, 0})
	usual.F.P = api.IF
	_, l = listen(t, usual, idle(t), 16, from(0, 99, irq))
	hold(t, "an irq, and IF set", l, begun{0x200, 0}, begun{0x201, 0}, begun{0x202, 0}, begun{0x203, 0})
}

// What CLI, SEI and PLP make of IF counts from the next instruction's first cycle on; what RTI makes of it at once.
func TestIrqsAndIF(t *testing.T) {
	m := idle(t)
	m[0x200] = api.Byte{V: 0x58}
	shut := with(t, usual, "f=I")
	_, l := listen(t, shut, m, 12, from(0, 99, irq))
	hold(t, "CLI", l, begun{0x200, 0}, begun{0x201, 0}, begun{0x202, 1})
	m[0x200] = api.Byte{V: 0x78}
	_, l = listen(t, usual, m, 12, from(0, 99, irq))
	hold(t, "SEI", l, begun{0x200, 0}, begun{0x201, 1}, begun{0x300, 0})
	_, l = listen(t, usual, m, 12, from(1, 99, irq))
	hold(t, "SEI ahead of an irq", l, begun{0x200, 0}, begun{0x201, 0}, begun{0x202, 0})
	m[0x200] = api.Byte{V: 0x28}
	_, l = listen(t, shut, m, 12, from(0, 99, irq))
	hold(t, "PLP", l, begun{0x200, 0}, begun{0x201, 0}, begun{0x202, 1})
	m[0x200], m[0x1ff], m[0x100] = api.Byte{V: 0x40}, api.Byte{V: 0x80}, api.Byte{V: 0x02}
	_, l = listen(t, shut, m, 14, from(0, 99, irq))
	hold(t, "RTI", l, begun{0x200, 0}, begun{0x280, 1}, begun{0x300, 0})
}

// An nmi is seen where its line rises, once, and kept until it is answered.
func TestNmis(t *testing.T) {
	_, l := listen(t, usual, idle(t), 20, from(0, 99, nmi))
	hold(t, "an nmi that stays", l, begun{0x200, 0}, begun{0x201, 2}, begun{0x400, 0}, begun{0x401, 0}, begun{0x402, 0})
	_, l = listen(t, usual, idle(t), 20, from(1, 2, nmi))
	hold(t, "an nmi in a last cycle", l, begun{0x200, 0}, begun{0x201, 0}, begun{0x202, 2}, begun{0x400, 0})
	_, l = listen(t, usual, idle(t), 20, from(0, 99, api.Lines{Irq: true, Nmi: true}))
	hold(t, "an nmi and an irq", l, begun{0x200, 0}, begun{0x201, 2}, begun{0x400, 0}, begun{0x401, 0})
	was := usual
	was.Nmi = true
	_, l = listen(t, was, idle(t), 20, from(0, 99, nmi))
	hold(t, "an nmi that was there", l, begun{0x200, 0}, begun{0x201, 0}, begun{0x202, 0})
	shut := with(t, usual, "f=I")
	_, l = listen(t, shut, idle(t), 20, from(0, 1, nmi))
	hold(t, "an nmi, and IF set", l, begun{0x200, 0}, begun{0x201, 2}, begun{0x400, 0})
	_, l = listen(t, usual, idle(t), 40, func(i int) api.Lines { return api.Lines{Nmi: i == 0 || i == 4} })
	hold(t, "a second nmi on the first one's way", l, begun{0x200, 0}, begun{0x201, 2}, begun{0x400, 0}, begun{0x401, 2}, begun{0x400, 0}, begun{0x401, 0})
	_, l = listen(t, usual, idle(t), 20, func(i int) api.Lines { return api.Lines{Nmi: i == 0, Irq: i < 9} })
	hold(t, "an irq behind an nmi that shut it out", l, begun{0x200, 0}, begun{0x201, 2}, begun{0x400, 0}, begun{0x401, 0})
	c, _ := listen(t, usual, idle(t), 2, from(0, 99, nmi))
	if c.Intr != api.NmiI || c.Got || c.Pend != api.NoI || !c.Nmi {
		t.Errorf("where an nmi is taken: %+v", c)
	}
	c, _ = listen(t, usual, idle(t), 1, from(0, 99, nmi))
	if !c.Got || c.Pend != api.NmiI || !c.Nmi || c.Intr != api.NoI {
		t.Errorf("where an nmi is seen: %+v", c)
	}
	c, _ = listen(t, usual, idle(t), 2, func(i int) api.Lines { return api.Lines{Nmi: i == 1} })
	if !c.Got || c.Pend != api.NmiI || c.Intr != api.NoI {
		t.Errorf("where an nmi is seen in a last cycle: %+v", c)
	}
	kept := usual
	kept.Got, kept.Pend, kept.T, kept.Op, kept.PC = true, api.NmiI, 1, 0xea, 0x201
	if c, _ = listen(t, kept, idle(t), 1, from(0, 99, nmi)); c.Intr != api.NmiI || !c.Got || c.Pend != api.NmiI {
		t.Errorf("where an nmi is taken, and another one seen: %+v", c)
	}
}

// Behind BRK, and behind an interrupt, no other one comes at once.
func TestNothingInterruptsRightBehindBrk(t *testing.T) {
	m := idle(t)
	m[0x200] = api.Byte{}
	_, l := listen(t, usual, m, 30, from(3, 4, nmi))
	hold(t, "an nmi in BRK", l, begun{0x200, 0}, begun{0x300, 0}, begun{0x301, 2}, begun{0x400, 0})
	c, _ := listen(t, usual, m, 7, from(3, 4, nmi))
	if c.Intr != api.NoI || !c.Got || c.Pend != api.NmiI {
		t.Errorf("behind BRK, with an nmi: %+v", c)
	}
	c, l = listen(t, usual, idle(t), 20, func(i int) api.Lines { return api.Lines{Irq: i == 0, Nmi: i == 5} })
	hold(t, "an nmi in an irq", l, begun{0x200, 0}, begun{0x201, 1}, begun{0x300, 0}, begun{0x301, 2}, begun{0x400, 0})
	if c.Ctl {
		t.Errorf("nothing secret tells: %+v", c)
	}
}

// Reset comes in any cycle, and begins anew; what is secret stays so.
func TestResets(t *testing.T) {
	everyTurn(func(op uint8, turn int) {
		chance := chance(uint32(op)*8 + uint32(turn))
		c := chance.cpu(op, turn, true)
		l := chance.lines()
		l.Reset = false
		want, _ := Take(c, api.Byte{V: 5}, l)
		want.T, want.Intr, want.Jam = 0, api.ResetI, false
		l.Reset = true
		if got, e := Take(c, api.Byte{V: 5}, l); got != want || e != api.OK {
			t.Errorf("Take of %+v with reset: %+v, %d, want %+v", c, got, e, want)
		}
	})
	for at := range 9 {
		_, l := listen(t, usual, idle(t), 30, from(at, at+1, reset))
		i := at/2 + 1
		if len(l) < i+2 || l[i].intr != api.ResetI || l[i+1] != (begun{0x500, 0}) {
			t.Errorf("reset in cycle %d: %x began", at, l)
		}
	}
	_, l := listen(t, usual, idle(t), 40, func(i int) api.Lines { return api.Lines{Reset: i == 0, Nmi: i == 3} })
	hold(t, "an nmi in a reset", l, begun{0x200, 0}, begun{0x201, 3}, begun{0x500, 0}, begun{0x501, 2}, begun{0x400, 0})
	_, l = listen(t, usual, idle(t), 40, from(0, 20, reset))
	hold(t, "a reset that stays", l, begun{0x200, 0}, begun{0x201, 3}, begun{0x201, 3}, begun{0x201, 3})
}

// Where it waits nothing goes on but what is told of the lines.
func TestWaits(t *testing.T) {
	for _, c := range []struct {
		what   string
		change func(*api.Cpu)
		l      api.Lines
		want   func(*api.Cpu)
	}{
		{"nothing", func(c *api.Cpu) {}, api.Lines{}, func(c *api.Cpu) {}},
		{"an irq", func(c *api.Cpu) {}, irq, func(c *api.Cpu) { c.Pend = 1 }},
		{"an irq, and IF set", func(c *api.Cpu) { c.F.P = api.IF }, irq, func(c *api.Cpu) {}},
		{"an irq that is gone", func(c *api.Cpu) { c.Pend = 1 }, api.Lines{}, func(c *api.Cpu) { c.Pend = 0 }},
		{"an nmi", func(c *api.Cpu) {}, nmi, func(c *api.Cpu) { c.Nmi, c.Got, c.Pend = true, true, 2 }},
		{"an nmi that stays", func(c *api.Cpu) { c.Nmi = true }, nmi, func(c *api.Cpu) {}},
		{"an nmi that is gone", func(c *api.Cpu) { c.Nmi, c.Got, c.Pend = true, true, 2 }, irq, func(c *api.Cpu) { c.Nmi = false }},
		{"an nmi that was seen", func(c *api.Cpu) { c.Got = true }, api.Lines{}, func(c *api.Cpu) { c.Pend = 2 }},
		{"reset", func(c *api.Cpu) { c.Jam, c.Intr = true, 1 }, reset, func(c *api.Cpu) { c.T, c.Intr, c.Jam = 0, 3, false }},
		{"a secret IF", func(c *api.Cpu) { c.F.S = api.IF }, api.Lines{}, func(c *api.Cpu) { c.Ctl = true }},
		{"other secrets", func(c *api.Cpu) { c.F.S, c.PCS, c.AddrS, c.A.S, c.Data.S = 255-48-api.IF, true, true, true, true }, irq, func(c *api.Cpu) { c.Pend = 1 }},
	} {
		first := usual
		first.Op, first.T, first.Addr, first.Cross, first.Data = 0xbd, 3, 0x1234, true, api.Byte{V: 9}
		c.change(&first)
		want := first
		c.want(&want)
		if got, e := Wait(first, c.l); got != want || e != api.OK {
			t.Errorf("Wait with %s: %+v, %d, want %+v", c.what, got, e, want)
		}
	}
}

// An irq that comes while it waits is seen as one in a cycle ahead of that.
func TestWaitsAheadOfAnIrq(t *testing.T) {
	c, _ := cycle(t, usual, idle(t), api.Lines{})
	c, _ = Wait(c, irq)
	c, _ = cycle(t, c, idle(t), api.Lines{})
	if c.Intr != api.IrqI || c.T != 0 {
		t.Errorf("behind an irq that came while it waited: %+v", c)
	}
}
