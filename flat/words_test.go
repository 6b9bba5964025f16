package flat

import (
	"math"
	"slices"
	"testing"

	"seepage/api"
	"seepage/core"
)

// chance is numbers that go all over the place, the same ones each time.
type chance uint32

func (c *chance) octet() uint8 {
	*c = *c*1664525 + 1013904223
	return uint8(*c >> 24)
}

// seldom is so once in four times.
func (c *chance) seldom() bool { return c.octet() < 64 }

// part is a byte, secret if labels are wanted, and chance has it.
func (c *chance) part(labels bool) api.Byte {
	return api.Byte{V: c.octet(), S: labels && c.octet() < 24}
}

func (c *chance) lines() api.Lines {
	return api.Lines{Irq: c.seldom(), Nmi: c.seldom(), Reset: c.octet() < 16}
}

func (c *chance) address() uint16 { return uint16(c.octet()) + 256*uint16(c.octet()) }

// memory is n cells of all kinds of octets.
func (c *chance) memory(n int, labels bool) []api.Byte {
	m := make([]api.Byte, n)
	for i := range m {
		m[i] = c.part(labels)
	}
	return m
}

// cpu is a processor that may be, in a cycle of an instruction.
func (c *chance) cpu(op uint8, t int, labels bool) api.Cpu {
	p := api.Cpu{
		A: c.part(labels), X: c.part(labels), Y: c.part(labels), S: c.part(labels),
		F: api.Flags{P: c.octet() & 207}, PC: c.address(), Op: op, T: t,
		Addr: c.address(), Data: c.part(labels), Cross: c.seldom(),
		Intr: int(c.octet() % 4), Nmi: c.seldom(), Got: c.seldom(), Pend: int(c.octet() % 3),
	}
	if labels {
		p.PCS, p.AddrS = c.octet() < 24, c.octet() < 24
		p.F.S = c.octet() & c.octet() & 207
	}
	return p
}

// everyTurn calls f with each instruction in each of its cycles.
func everyTurn(f func(op uint8, t int)) {
	for op := range 256 {
		for t := 0; core.Check(api.Cpu{Op: uint8(op), T: t}) == api.OK; t++ {
			f(uint8(op), t)
		}
	}
}

// sizes is how many cells memory may have.
var sizes = []int{256, 512, 1024, 2048, 4096, 8192, 16384, 32768, 65536}

// wrongSizes is some of how many it may not have.
var wrongSizes = []int{0, 1, 2, 128, 255, 257, 300, 384, 511, 768, 65535, 65537, 131072}

// wrongCpus is some that may not be.
var wrongCpus = []api.Cpu{
	{T: -1}, {T: 7}, {T: math.MinInt}, {T: math.MaxInt}, {Op: 0xa9, T: 2}, {Op: 2, T: 2, Jam: true},
	{Intr: -1}, {Intr: 4}, {Pend: -1}, {Pend: 3}, {F: api.Flags{P: 16}}, {F: api.Flags{S: 32}},
}

// wrongCounts is some numbers of cycles that may not be played.
var wrongCounts = []int{-1, -2, -100000, math.MinInt32, math.MinInt, 100001, 100002, 200000, math.MaxInt32, 1 << 32, 1<<32 + 1, math.MaxInt}

// cellsOf is n cells, with octets from a place on.
func cellsOf(n, at int, octets ...uint8) []api.Byte {
	m := make([]api.Byte, n)
	for i, v := range octets {
		m[at+i].V = v
	}
	return m
}

// byWords is a cycle as the chapter tells it.
func byWords(c api.Cpu, m []api.Byte, l api.Lines) (api.Cpu, []api.Byte, api.Bus) {
	asks, after := core.Ask(c), slices.Clone(m)
	at := int(asks.Addr)
	for at >= len(m) {
		at -= len(m)
	}
	if asks.Write {
		after[at] = asks.V
	} else {
		asks.V = m[at]
	}
	next, _ := core.Take(c, asks.V, l)
	return next, after, asks
}

// played is what comes of a play.
type played struct {
	cpu    api.Cpu
	memory []api.Byte
	told   []api.Bus
}

// manyByWords is up to n cycles as the chapter tells them, up to where the end is.
func manyByWords(c api.Cpu, m []api.Byte, n int, end func(api.Cpu) bool) played {
	p := played{cpu: c, memory: m}
	for i := 0; i < n && (i == 0 || !end(p.cpu)); i++ {
		var bus api.Bus
		p.cpu, p.memory, bus = byWords(p.cpu, p.memory, api.Lines{})
		p.told = append(p.told, bus)
	}
	return p
}

func jams(c api.Cpu) bool { return c.Jam }

func ends(c api.Cpu) bool { return c.T == 0 || c.Jam }

// holdRun fails where Run isn't as told, changes what is handed in, or answers a part of it.
func holdRun(t *testing.T, c api.Cpu, m []api.Byte, n int, want played) {
	t.Helper()
	was := slices.Clone(m)
	cpu, memory, told, e := Run(c, m, n)
	if e != api.OK || cpu != want.cpu || !slices.Equal(memory, want.memory) || !slices.Equal(told, want.told) {
		t.Fatalf("Run(%+v, %d cells, %d) = %+v, %d cycles, %d, want %+v, %d cycles", c, len(m), n, cpu, len(told), e, want.cpu, len(want.told))
	}
	holdApart(t, was, m, memory)
}

// holdUntil does so of Until.
func holdUntil(t *testing.T, c api.Cpu, m []api.Byte, n int, want played) {
	t.Helper()
	was := slices.Clone(m)
	cpu, memory, count, e := Until(c, m, n)
	if e != api.OK || cpu != want.cpu || !slices.Equal(memory, want.memory) || count != len(want.told) {
		t.Fatalf("Until(%+v, %d cells, %d) = %+v, %d cycles, %d, want %+v, %d cycles", c, len(m), n, cpu, count, e, want.cpu, len(want.told))
	}
	holdApart(t, was, m, memory)
}

// holdApart fails where cells that were handed in aren't as they were, or are those that are answered.
func holdApart(t *testing.T, was, in, out []api.Byte) {
	t.Helper()
	if !slices.Equal(in, was) {
		t.Fatal("the cells that were handed in have changed")
	}
	if len(out) > 0 && &in[0] == &out[0] {
		t.Fatal("the cells that were handed in are answered")
	}
}
