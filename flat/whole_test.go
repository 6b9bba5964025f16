package flat

import (
	"slices"
	"testing"

	"seepage/api"
	"seepage/cells"
	"seepage/core"
	"seepage/label"
	"seepage/opcode"
)

// P11.4

// wild is memory of all kinds of octets, but for JAM, where jams are not wanted.
func (c *chance) wild(n int, labels, jam bool) []api.Byte {
	m := c.memory(n, labels)
	for i, b := range m {
		if !jam && opcode.Decode(b.V).Mode == api.JamM {
			m[i].V = 0xea
		}
	}
	return m
}

func TestPlayedInParts(t *testing.T) {
	chance := chance(7)
	for i := range 900 {
		c, m := chance.cpu(0, 0, i%2 > 0), chance.wild(sizes[i%9], i%2 > 0, i%3 == 0)
		n := 200
		cpu, memory, told, _ := Run(c, m, n)
		parts := played{cpu: c, memory: m}
		for left := n; left > 0 && (left == n || !parts.cpu.Jam); {
			part := min(left, int(chance.octet()%64))
			next, after, more, e := Run(parts.cpu, parts.memory, part)
			if e != api.OK {
				t.Fatalf("Run of a part: %d", e)
			}
			parts = played{next, after, slices.Concat(parts.told, more)}
			left -= part
		}
		if parts.cpu != cpu || !slices.Equal(parts.memory, memory) || !slices.Equal(parts.told, told) {
			t.Fatalf("%+v comes to %+v at once, in parts to %+v", c, cpu, parts.cpu)
		}
	}
}

// By instructions, and by steps, it comes to the same too.
func TestPlayedByInstructions(t *testing.T) {
	chance := chance(8)
	for i := range 300 {
		c, m := chance.cpu(0, 0, i%2 > 0), chance.wild(sizes[i%5], i%2 > 0, i%3 == 0)
		whole := played{cpu: c, memory: m}
		for len(whole.told) < 100 && !whole.cpu.Jam {
			next, after, n, e := Until(whole.cpu, whole.memory, 100)
			steps := played{cpu: whole.cpu, memory: whole.memory}
			for range n {
				var bus api.Bus
				steps.cpu, steps.memory, bus, _ = Step(steps.cpu, steps.memory, api.Lines{})
				whole.told = append(whole.told, bus)
			}
			if e != api.OK || next != steps.cpu || !slices.Equal(after, steps.memory) {
				t.Fatalf("%+v comes to %+v, by steps to %+v", whole.cpu, next, steps.cpu)
			}
			whole.cpu, whole.memory = next, after
		}
		holdRun(t, c, m, len(whole.told), whole)
	}
}

func TestWhatWasNotWrittenStays(t *testing.T) {
	chance := chance(9)
	for i := range 500 {
		c, m := chance.cpu(0, 0, true), chance.wild(sizes[i%5], true, false)
		_, memory, told, _ := Run(c, m, 300)
		want := slices.Clone(m)
		for _, b := range told {
			if b.Write {
				want[int(b.Addr)%len(m)] = b.V
			}
		}
		if !slices.Equal(memory, want) {
			t.Fatalf("of %+v there are other cells than those that were written", c)
		}
	}
}

// other is a byte that is alike: its value is another one only if it is secret.
func (c *chance) other(b api.Byte) api.Byte {
	if b.S {
		b.V = c.octet()
	}
	return b
}

// twin is a processor that is alike, ahead of an instruction.
func (c *chance) twin(p api.Cpu) api.Cpu {
	p.A, p.X, p.Y, p.S, p.Data = c.other(p.A), c.other(p.X), c.other(p.Y), c.other(p.S), c.other(p.Data)
	p.F.P ^= c.octet() & p.F.S
	if p.PCS {
		p.PC = c.address()
	}
	if p.AddrS {
		p.Addr = c.address()
	}
	return p
}

// asked tells whether two asked for the same, one cycle after the other, and were told what is alike.
func asked(a, b []api.Bus) bool {
	return slices.EqualFunc(a, b, func(x, y api.Bus) bool {
		return label.Alike(x.V, y.V) && x.Addr == y.Addr && x.Write == y.Write && x.Secret == y.Secret
	})
}

func TestTwins(t *testing.T) {
	chance := chance(10)
	quiet := 0
	for i := range 4000 {
		a, m := chance.cpu(0, 0, true), chance.wild(sizes[i%5], false, i%3 == 0)
		a.PCS, a.F.S, a.S.S = false, a.F.S&^api.IF, false
		for j := 0; j < len(m); j += 1 + int(chance.octet()/16) {
			m[j].S = chance.octet() < 32
		}
		b, k := chance.twin(a), slices.Clone(m)
		for j := range k {
			k[j] = chance.other(k[j])
		}
		n := 1 + int(chance.octet()%60)
		cpuA, memoryA, toldA, _ := Run(a, m, n)
		cpuB, memoryB, toldB, _ := Run(b, k, n)
		if cpuA.Ctl != cpuB.Ctl {
			t.Fatalf("a secret tells one of %+v and %+v: %+v, %+v", a, b, cpuA, cpuB)
		}
		if cpuA.Ctl {
			continue
		}
		if !core.Alike(cpuA, cpuB) || !cells.Alike(memoryA, memoryB) || !asked(toldA, toldB) {
			t.Fatalf("%+v and %+v come to %+v and %+v", a, b, cpuA, cpuB)
		}
		quiet++
	}
	if quiet < 400 {
		t.Errorf("only %d were told by no secret", quiet)
	}
}

// Without secrets there is none, and labels change no value.
func TestLabelsChangeNoValue(t *testing.T) {
	chance := chance(11)
	for i := range 1000 {
		c, m := chance.cpu(0, 0, true), chance.wild(sizes[i%5], true, i%3 == 0)
		cpu, memory, told, _ := Run(c, m, 100)
		for j := range told {
			told[j].V, told[j].Secret = label.Erase(told[j].V), false
		}
		holdRun(t, core.Erase(c), cells.Erase(m), 100, played{core.Erase(cpu), cells.Erase(memory), told})
	}
}
