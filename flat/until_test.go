package flat

import (
	"testing"

	"seepage/api"
	"seepage/core"
	"seepage/opcode"
)

// P11.3

func TestUntilByTheWords(t *testing.T) {
	chance := chance(6)
	everyTurn(func(op uint8, turn int) {
		for i := range 6 {
			c, m := chance.cpu(op, turn, i%2 > 0), chance.memory(sizes[i%4], i%2 > 0)
			n := int(chance.octet() % 12)
			holdUntil(t, c, m, n, manyByWords(c, m, n, ends))
			holdUntil(t, c, m, 100000, manyByWords(c, m, 10, ends))
		}
	})
	for i, size := range sizes {
		for range 20 {
			c, m := chance.cpu(0, 0, i%2 > 0), chance.memory(size, i%2 > 0)
			holdUntil(t, c, m, 10, manyByWords(c, m, 10, ends))
		}
	}
}

// Of each instruction all cycles, where nothing is crossed: memory's octets are 16, and so small X and Y are.
func TestUntilOfEachInstruction(t *testing.T) {
	for op := range 256 {
		o := opcode.Decode(uint8(op))
		m := cellsOf(65536, 0)
		for i := range m {
			m[i].V = 16
		}
		m[0x200].V = uint8(op)
		want := o.Cycles
		switch {
		case o.Mode == api.JamM:
			want = 2
		case o.Mode == api.RelM && op&0x20 == 0: // taken, as no flag is set
			want++
		}
		for n := range 12 {
			c, _, count, e := Until(api.Cpu{PC: 0x200, S: api.Byte{V: 128}}, m, n)
			if e != api.OK || count != min(n, want) {
				t.Errorf("Until of %s (%x), %d cycles: %d, %d, want %d", o.Name, op, n, count, e, want)
			}
			if over := n > 0 && n >= want; over && c.T != 0 && !c.Jam || !over && n > 0 && c.T != n {
				t.Errorf("Until of %s (%x), %d cycles: %+v", o.Name, op, n, c)
			}
		}
	}
}

// Reset is an instruction of seven cycles, and so are interrupts.
func TestUntilOfInterrupts(t *testing.T) {
	m := cellsOf(65536, 0xfffa, 0x11, 0xa1, 0x22, 0xa2, 0x33, 0xa3)
	c, _, n, e := Until(core.New(), m, 100)
	if e != api.OK || n != 7 || c.PC != 0xa222 || c.T != 0 {
		t.Errorf("Until of a reset: %+v, %d, %d", c, n, e)
	}
	for intr, pc := range map[int]uint16{api.IrqI: 0xa333, api.NmiI: 0xa111} {
		c, after, n, e := Until(api.Cpu{PC: 0x1234, Intr: intr, S: api.Byte{V: 255}}, m, 100)
		if e != api.OK || n != 7 || c.PC != pc || after[0x1ff].V != 0x12 || after[0x1fe].V != 0x34 {
			t.Errorf("Until of interrupt %d: %+v, %d, %d", intr, c, n, e)
		}
	}
}

// The end is one, though T is not 0 there; of what has ended there is one cycle more.
func TestUntilTheEnd(t *testing.T) {
	m := cellsOf(256, 0, 0x02)
	c, _, n, e := Until(api.Cpu{}, m, 100)
	if e != api.OK || n != 2 || !c.Jam || c.T != 1 {
		t.Errorf("Until of JAM: %+v, %d, %d", c, n, e)
	}
	again, _, n, e := Until(c, m, 100)
	if e != api.OK || n != 1 || again != c {
		t.Errorf("Until of what has ended: %+v, %d, %d", again, n, e)
	}
}

// One instruction behind the other, as a whole.
func TestUntilThroughAProgram(t *testing.T) {
	m := cellsOf(256, 0, 0xa2, 2, 0xca, 0xd0, 0xfd, 0x86, 0x40, 0x20, 0x0a, 0x00, 0x48, 0x02)
	c := api.Cpu{}
	for i, want := range []int{2, 2, 3, 2, 2, 3, 6, 3, 2} {
		next, after, n, e := Until(c, m, 9)
		if e != api.OK || n != want {
			t.Fatalf("instruction %d: %d cycles, %d, want %d", i, n, e, want)
		}
		c, m = next, after
	}
	if !c.Jam {
		t.Errorf("at the end: %+v", c)
	}
}
