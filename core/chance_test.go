package core

import (
	"seepage/api"
	"seepage/opcode"
)

// chance is numbers that go all over the place, the same ones each time.
type chance uint32

func (c *chance) octet() uint8 {
	*c = *c*1664525 + 1013904223
	return uint8(*c >> 24)
}

// below is a number from 0 to less than n, of at most 256.
func (c *chance) below(n int) int { return int(c.octet()) * n / 256 }

// seldom is so once in four times.
func (c *chance) seldom() bool { return c.below(4) == 0 }

// value is an octet, often one at an edge.
func (c *chance) value() uint8 {
	if c.seldom() {
		return c.octet()
	}
	return [...]uint8{0, 1, 2, 3, 63, 64, 127, 128, 129, 170, 192, 238, 240, 253, 254, 255}[c.below(16)]
}

// part is a byte, secret if labels are wanted, and chance has it.
func (c *chance) part(labels bool) api.Byte {
	return api.Byte{V: c.value(), S: labels && c.seldom()}
}

func (c *chance) lines() api.Lines {
	return api.Lines{Irq: c.seldom(), Nmi: c.seldom(), Reset: c.below(16) == 0}
}

// address is two octets, each often one at an edge.
func (c *chance) address() uint16 { return uint16(c.value()) + 256*uint16(c.value()) }

// cpu is a processor that may be, in a cycle of an instruction.
func (c *chance) cpu(op uint8, t int, labels bool) api.Cpu {
	p := api.Cpu{
		A: c.part(labels), X: c.part(labels), Y: c.part(labels), S: c.part(labels),
		F: api.Flags{P: c.octet() & 207}, PC: c.address(), Op: op, T: t,
		Addr: c.address(), Data: c.part(labels), Cross: c.seldom(),
		Intr: c.below(4), Nmi: c.seldom(), Got: c.seldom(), Pend: c.below(3),
		Jam: c.seldom(),
	}
	if labels {
		p.PCS, p.AddrS, p.Ctl = c.seldom(), c.seldom(), c.seldom()
		if c.seldom() {
			p.F.S = c.octet() & 207
		}
	}
	return p
}

// everyTurn calls f with each instruction in each of its cycles.
func everyTurn(f func(op uint8, t int)) {
	for op := range 256 {
		for t := range len(tableOf(opcode.Decode(uint8(op)))) + 1 {
			f(uint8(op), t)
		}
	}
}

// other is a byte that is alike: its value is another one only if it is secret.
func (c *chance) other(b api.Byte) api.Byte {
	if b.S {
		b.V = c.value()
	}
	return b
}

// twin is a processor that is alike. Cross is another one only where it was told with Addr: ahead of that it would be one of an earlier Addr, which no run has.
func (c *chance) twin(p api.Cpu) api.Cpu {
	p.A, p.X, p.Y, p.S, p.Data = c.other(p.A), c.other(p.X), c.other(p.Y), c.other(p.S), c.other(p.Data)
	p.F.P ^= c.octet() & p.F.S
	if p.PCS {
		p.PC = c.address()
	}
	if p.AddrS {
		p.Addr = c.address()
		if crossed(p) {
			p.Cross = c.seldom()
		}
	}
	return p
}

// crossed tells whether a processor is behind the cycle in which Cross is told.
func crossed(p api.Cpu) bool {
	switch opcode.Decode(p.Op).Mode {
	case api.AbxM, api.AbyM:
		return p.T >= 3
	case api.IzyM:
		return p.T >= 4
	}
	return false
}
