package flat

import (
	"slices"
	"testing"

	"seepage/api"
	"seepage/core"
)

// P11.2

// Each instruction in each of its cycles, and what comes behind it.
func TestRunByTheWords(t *testing.T) {
	chance := chance(4)
	everyTurn(func(op uint8, turn int) {
		for _, labels := range []bool{false, true} {
			c, m := chance.cpu(op, turn, labels), chance.memory(256, labels)
			n := int(chance.octet() % 40)
			holdRun(t, c, m, n, manyByWords(c, m, n, jams))
		}
	})
	for i, size := range sizes {
		for range 20 {
			c, m := chance.cpu(0, 0, i%2 > 0), chance.memory(size, i%2 > 0)
			n := int(chance.octet())
			holdRun(t, c, m, n, manyByWords(c, m, n, jams))
		}
	}
}

func TestRunOfNoCycles(t *testing.T) {
	chance := chance(5)
	for _, size := range sizes {
		m := chance.memory(size, true)
		for _, c := range []api.Cpu{{}, core.New(), {PC: 7, Ctl: true}, {Op: 0x02, T: 1, Jam: true}, {Jam: true}} {
			holdRun(t, c, m, 0, played{cpu: c, memory: m})
			holdUntil(t, c, m, 0, played{cpu: c, memory: m})
		}
	}
}

// The first example, and what is told of it.
func TestRunOfOneInstruction(t *testing.T) {
	m := cellsOf(256, 0, 0xa9, 5)
	want := played{api.Cpu{A: api.Byte{V: 5}, PC: 2, Op: 0xa9}, m, []api.Bus{{V: api.Byte{V: 0xa9}}, {Addr: 1, V: api.Byte{V: 5}}}}
	holdRun(t, api.Cpu{}, m, 2, want)
	holdUntil(t, api.Cpu{}, m, 2, want)
	holdUntil(t, api.Cpu{}, m, 100000, want)
}

// A secret cell is read, changed, and what was read is written elsewhere: LDA 20, INC 20, STA 0312.
func TestRunOfSecrets(t *testing.T) {
	m := cellsOf(256, 0, 0xa5, 0x20, 0xe6, 0x20, 0x8d, 0x12, 0x03)
	secret := func(v uint8) api.Byte { return api.Byte{V: v, S: true} }
	low := func(addr uint16) api.Bus { return api.Bus{Addr: addr, V: m[addr]} }
	m[0x20] = secret(5)
	after := slices.Clone(m)
	after[0x20], after[0x12] = secret(6), secret(5)
	told := []api.Bus{
		low(0), low(1), {Addr: 0x20, V: secret(5)},
		low(2), low(3), {Addr: 0x20, V: secret(5)}, {Addr: 0x20, Write: true, V: secret(5)}, {Addr: 0x20, Write: true, V: secret(6)},
		low(4), low(5), low(6), {Addr: 0x312, Write: true, V: secret(5)},
	}
	cpu, memory, got, e := Run(api.Cpu{}, m, 12)
	if e != api.OK || !slices.Equal(got, told) || !slices.Equal(memory, after) {
		t.Errorf("Run told %+v, %d, want %+v", got, e, told)
	}
	if cpu.A != secret(5) || cpu.PC != 7 || cpu.Ctl || cpu.F.S != api.NF|api.ZF {
		t.Errorf("Run = %+v", cpu)
	}
}

// It ends behind the cycle behind which Jam is set, and not ahead of it.
func TestRunToTheEnd(t *testing.T) {
	m := cellsOf(256, 0, 0xea, 0xa9, 1, 0x02)
	for n := range 20 {
		cpu, _, told, e := Run(api.Cpu{}, m, n)
		if e != api.OK || len(told) != min(n, 6) || cpu.Jam != (n >= 6) {
			t.Errorf("Run of %d cycles: %d, %+v, %d", n, len(told), cpu, e)
		}
	}
}

// Of what has ended ahead there is one cycle more, however many are asked for.
func TestRunOfWhatHasEnded(t *testing.T) {
	m := cellsOf(1024, 1023, 9)
	for _, n := range []int{1, 2, 100, 100000} {
		c := api.Cpu{PC: 8, Op: 0x02, T: 1, Jam: true}
		holdRun(t, c, m, n, played{c, m, []api.Bus{{Addr: 65535, V: api.Byte{V: 9}}}})
		c = api.Cpu{PC: 8, Jam: true}
		holdRun(t, c, m, n, played{api.Cpu{PC: 9, T: 1, Jam: true}, m, []api.Bus{{Addr: 8}}})
	}
}

// As many as can be, over the greatest memory, with a write in every third cycle or so: INX, STX 1234, JMP.
func TestRunAsManyAsCanBe(t *testing.T) {
	m := cellsOf(65536, 0x200, 0xe8, 0x8e, 0x34, 0x12, 0x4c, 0x00, 0x02)
	cpu, memory, told, e := Run(api.Cpu{PC: 0x200}, m, 100000)
	// nine cycles a turn: 11111 turns, and the first cycle of one
	if e != api.OK || len(told) != 100000 || cpu.X.V != 11111%256 || memory[0x1234] != cpu.X || cpu.PC != 0x201 || cpu.T != 1 || m[0x1234].V != 0 {
		t.Errorf("Run = %+v, %d cycles, %d", cpu, len(told), e)
	}
	for i := range told {
		if got := told[i].Write; got != (i%9 == 5) {
			t.Fatalf("cycle %d writes: %v", i, got)
		}
	}
	if _, _, n, e := Until(api.Cpu{PC: 0x200}, m, 100000); e != api.OK || n != 2 {
		t.Errorf("Until: %d, %d", n, e)
	}
}

// No lines are given: what was asked for on them ahead is answered, and no more.
func TestRunHasNoLines(t *testing.T) {
	m := cellsOf(256, 0, 0xea, 0xea, 0xea, 0xea, 0xea)
	cpu, _, _, e := Run(api.Cpu{Nmi: true, Pend: api.IrqI}, m, 1)
	if want := (api.Cpu{PC: 1, Op: 0xea, T: 1}); cpu != want || e != api.OK {
		t.Errorf("Run = %+v, %d, want %+v", cpu, e, want)
	}
}

// What is answered is apart from what comes of another call.
func TestRunAnswersNewMemory(t *testing.T) {
	m := cellsOf(256, 0, 0xe6, 0x80, 0x02)
	_, first, told, _ := Run(api.Cpu{}, m, 7)
	_, second, again, _ := Run(api.Cpu{}, m, 7)
	first[0x80].V, told[0].Addr = 99, 99
	if second[0x80].V != 1 || again[0].Addr != 0 || m[0x80].V != 0 {
		t.Error("what was answered has parts in common")
	}
}
