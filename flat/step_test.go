package flat

import (
	"slices"
	"testing"

	"seepage/api"
)

// P11.1

func TestCheck(t *testing.T) {
	for n := range 70000 {
		want := api.ErrArg
		if slices.Contains(sizes, n) {
			want = api.OK
		}
		if e := Check(make([]api.Byte, n)); e != want {
			t.Errorf("Check of %d cells: %d, want %d", n, e, want)
		}
	}
	for _, n := range []int{131072, 262144, 1 << 20, 1<<20 + 256} {
		if e := Check(make([]api.Byte, n)); e != api.ErrArg {
			t.Errorf("Check of %d cells: %d", n, e)
		}
	}
	if e := Check(nil); e != api.ErrArg {
		t.Errorf("Check of none: %d", e)
	}
}

// Whatever is in them, and whatever room is behind them.
func TestCheckOfCells(t *testing.T) {
	chance := chance(1)
	for _, n := range sizes {
		m := chance.memory(2*n, true)
		if e := Check(m[:n]); e != api.OK {
			t.Errorf("Check of %d cells: %d", n, e)
		}
		if e := Check(m[:n-1]); e != api.ErrArg {
			t.Errorf("Check of %d cells with room behind: %d", n-1, e)
		}
	}
}

// holdStep fails where Step isn't as told, changes what is handed in, or answers a part of it.
func holdStep(t *testing.T, c api.Cpu, m []api.Byte, l api.Lines, cpu api.Cpu, memory []api.Byte, bus api.Bus) {
	t.Helper()
	was := slices.Clone(m)
	gotCpu, gotMemory, gotBus, e := Step(c, m, l)
	if e != api.OK || gotCpu != cpu || !slices.Equal(gotMemory, memory) || gotBus != bus {
		t.Fatalf("Step(%+v, %d cells, %+v) = %+v, %+v, %d, want %+v, %+v", c, len(m), l, gotCpu, gotBus, e, cpu, bus)
	}
	holdApart(t, was, m, gotMemory)
}

func TestStepByTheWords(t *testing.T) {
	chance := chance(2)
	for i, n := range sizes {
		m := chance.memory(n, i%3 > 0)
		everyTurn(func(op uint8, turn int) {
			c, l := chance.cpu(op, turn, i%3 > 0), chance.lines()
			cpu, memory, bus := byWords(c, m, l)
			holdStep(t, c, m, l, cpu, memory, bus)
		})
	}
}

// An address goes around within memory; what is told of it is the whole of it.
func TestStepGoesAround(t *testing.T) {
	for _, n := range sizes {
		for _, at := range []int{0, 1, 128, n/2 - 1, n / 2, n - 1} {
			for addr := at; addr < 65536; addr += n {
				m := cellsOf(n, at, 0xa5)
				c := api.Cpu{PC: uint16(addr)}
				holdStep(t, c, m, api.Lines{}, api.Cpu{PC: c.PC + 1, Op: 0xa5, T: 1}, m, api.Bus{Addr: c.PC, V: api.Byte{V: 0xa5}})
				// STA zp, its last cycle
				c = api.Cpu{PC: 5, Op: 0x85, T: 2, Addr: uint16(addr), A: api.Byte{V: 7}}
				after := c
				after.T = 0
				holdStep(t, c, m, api.Lines{}, after, cellsOf(n, at, 7), api.Bus{Addr: c.Addr, Write: true, V: api.Byte{V: 7}})
			}
		}
	}
}

// What is read, or written, is a byte with its label; that of the address makes it no other one.
func TestStepOfSecrets(t *testing.T) {
	for i := range 8 {
		old, now, s := api.Byte{V: 9, S: i&1 > 0}, api.Byte{V: 7, S: i&2 > 0}, i&4 > 0
		m, written := cellsOf(512, 0), cellsOf(512, 0)
		m[0x110], written[0x110] = old, now
		c := api.Cpu{PC: 5, Op: 0x8d, T: 3, Addr: 0x310, AddrS: s, A: now}
		after := c
		after.T, after.Ctl = 0, s
		holdStep(t, c, m, api.Lines{}, after, written, api.Bus{Addr: 0x310, Write: true, V: now, Secret: s})
		c.Op, after.Op = 0xcd, 0xcd // CMP abs
		c.A, after.A = api.Byte{V: 9}, api.Byte{V: 9}
		after.F = api.Flags{P: api.ZF | api.CF}
		if old.S {
			after.F.S = api.NF | api.ZF | api.CF
		}
		holdStep(t, c, m, api.Lines{}, after, m, api.Bus{Addr: 0x310, V: old, Secret: s})
	}
}

func TestStepWithLines(t *testing.T) {
	m := cellsOf(256, 0, 0xea)
	for _, x := range []struct {
		l      api.Lines
		change func(*api.Cpu)
	}{
		{api.Lines{}, func(c *api.Cpu) {}},
		{api.Lines{Irq: true}, func(c *api.Cpu) { c.Pend = api.IrqI }},
		{api.Lines{Nmi: true}, func(c *api.Cpu) { c.Pend, c.Nmi, c.Got = api.NmiI, true, true }},
		{api.Lines{Irq: true, Nmi: true}, func(c *api.Cpu) { c.Pend, c.Nmi, c.Got = api.NmiI, true, true }},
		{api.Lines{Reset: true}, func(c *api.Cpu) { c.T, c.Intr = 0, api.ResetI }},
	} {
		after := api.Cpu{PC: 1, Op: 0xea, T: 1}
		x.change(&after)
		holdStep(t, api.Cpu{}, m, x.l, after, m, api.Bus{V: api.Byte{V: 0xea}})
	}
}

// What has ended asks on, and reset begins anew.
func TestStepOfTheEnd(t *testing.T) {
	m := cellsOf(256, 255, 3)
	c := api.Cpu{PC: 9, Op: 0x02, T: 1, Jam: true}
	bus := api.Bus{Addr: 65535, V: api.Byte{V: 3}}
	holdStep(t, c, m, api.Lines{}, c, m, bus)
	holdStep(t, c, m, api.Lines{Reset: true}, api.Cpu{PC: 9, Op: 0x02, Intr: api.ResetI}, m, bus)
}

// holdRefused fails where one of the calls that play doesn't refuse these, answers something else than what it was handed, or answers the cells themselves.
func holdRefused(t *testing.T, c api.Cpu, m []api.Byte, n int, step bool) {
	t.Helper()
	was := slices.Clone(m)
	hold := func(what string, cpu api.Cpu, memory []api.Byte, zero bool, e api.Errno) {
		t.Helper()
		if e != api.ErrArg || cpu != c || !slices.Equal(memory, was) || !zero {
			t.Errorf("%s of %+v, %d cells, %d cycles: %+v, %d cells, zero %v, %d", what, c, len(m), n, cpu, len(memory), zero, e)
		}
		holdApart(t, was, m, memory)
	}
	if step {
		cpu, memory, bus, e := Step(c, m, api.Lines{Irq: true, Nmi: true, Reset: true})
		hold("Step", cpu, memory, bus == api.Bus{}, e)
	}
	cpu, memory, told, e := Run(c, m, n)
	hold("Run", cpu, memory, len(told) == 0, e)
	cpu, memory, count, e := Until(c, m, n)
	hold("Until", cpu, memory, count == 0, e)
}

// P11.1 to P11.3: what is refused.
func TestWhatIsRefused(t *testing.T) {
	chance := chance(3)
	good := api.Cpu{PC: 3, A: api.Byte{V: 1, S: true}}
	for _, n := range []int{0, 1, 5, 100000} {
		for _, c := range wrongCpus {
			for _, size := range sizes {
				holdRefused(t, c, chance.memory(size, true), n, true)
			}
			holdRefused(t, c, chance.memory(300, true), n, true)
		}
		for _, size := range wrongSizes {
			holdRefused(t, good, chance.memory(size, true), n, true)
		}
		holdRefused(t, good, nil, n, true)
	}
	for _, n := range wrongCounts {
		holdRefused(t, good, chance.memory(256, true), n, false)
		holdRefused(t, good, chance.memory(65536, true), n, false)
		holdRefused(t, wrongCpus[0], chance.memory(300, true), n, true)
	}
}
