package core

import (
	"math"
	"testing"

	"seepage/api"
	"seepage/opcode"
)

// P10.1

func TestNew(t *testing.T) {
	if got, want := New(), (api.Cpu{F: api.Flags{P: 4}, Intr: 3}); got != want {
		t.Errorf("New() = %+v, want %+v", got, want)
	}
	if e := Check(New()); e != api.OK {
		t.Errorf("Check(New()) = %d", e)
	}
}

// numbers is numbers from the least to the greatest one, those around what may be among them.
func numbers() []int {
	l := []int{math.MinInt, math.MinInt64 + 1, math.MinInt32, -256, 255, 256, 257, 65536, math.MaxInt32, 1 << 32, 1<<32 + 1, 1<<32 + 2, math.MaxInt}
	for n := -3; n <= 12; n++ {
		l = append(l, n)
	}
	return l
}

// holdCheck fails where Check doesn't tell what may be, and where one that may not be is played all the same.
func holdCheck(t *testing.T, c api.Cpu, may bool) {
	t.Helper()
	want := api.OK
	if !may {
		want = api.ErrArg
	}
	if e := Check(c); e != want {
		t.Errorf("Check(%+v) = %d, want %d", c, e, want)
	}
	got, e := Take(c, api.Byte{V: 5, S: true}, api.Lines{Irq: true, Nmi: true, Reset: true})
	if e != want || !may && got != c {
		t.Errorf("Take(%+v) = %+v, %d", c, got, e)
	}
	got, e = Wait(c, api.Lines{Irq: true, Nmi: true, Reset: true})
	if e != want || !may && got != c {
		t.Errorf("Wait(%+v) = %+v, %d", c, got, e)
	}
	if b := Ask(c); !may && b != (api.Bus{}) {
		t.Errorf("Ask(%+v) = %+v", c, b)
	}
}

// full is a processor in which nothing is zero, but for T, where it can't be.
var full = api.Cpu{
	A: api.Byte{V: 1, S: true}, X: api.Byte{V: 2, S: true}, Y: api.Byte{V: 3, S: true}, S: api.Byte{V: 4, S: true},
	F: api.Flags{P: 0x83, S: 0x42}, PC: 5, PCS: true, Op: 0xbd, Addr: 6, AddrS: true, Data: api.Byte{V: 7, S: true},
	Cross: true, Intr: 1, Nmi: true, Got: true, Pend: 2, Ctl: true, Jam: true,
}

func TestCheckOfEachTurn(t *testing.T) {
	for op := range 256 {
		for _, n := range numbers() {
			c := full
			c.Op, c.T = uint8(op), n
			holdCheck(t, c, n >= 0 && n <= len(tableOf(opcode.Decode(c.Op))))
		}
	}
}

func TestCheckOfTurnsByName(t *testing.T) {
	for _, c := range []struct {
		op     uint8
		cycles int
	}{
		{0x00, 7}, {0x02, 2}, {0xea, 2}, {0x0a, 2}, {0xa9, 2}, {0xd0, 4}, {0x4c, 3}, {0x6c, 5}, {0x20, 6}, {0x60, 6}, {0x40, 6}, {0x48, 3}, {0x68, 4},
		{0xa5, 3}, {0x85, 3}, {0xe6, 5}, {0xb5, 4}, {0x96, 4}, {0xf6, 6}, {0xad, 4}, {0xee, 6},
		{0xbd, 5}, {0x9d, 5}, {0xfe, 7}, {0xb9, 5}, {0xa1, 6}, {0x81, 6}, {0xe3, 8}, {0xb1, 6}, {0x91, 6}, {0xf3, 8},
	} {
		holdCheck(t, api.Cpu{Op: c.op, T: c.cycles - 1}, true)
		holdCheck(t, api.Cpu{Op: c.op, T: c.cycles}, false)
	}
}

func TestCheckOfInterrupts(t *testing.T) {
	for _, n := range numbers() {
		c := full
		c.Intr = n
		holdCheck(t, c, n >= 0 && n <= 3)
		c = full
		c.Pend = n
		holdCheck(t, c, n >= 0 && n <= 2)
	}
}

func TestCheckOfFlags(t *testing.T) {
	for p := range 256 {
		for s := range 256 {
			c := full
			c.F = api.Flags{P: uint8(p), S: uint8(s)}
			holdCheck(t, c, p/16%4 == 0 && s/16%4 == 0)
		}
	}
}

func TestErase(t *testing.T) {
	want := api.Cpu{
		A: api.Byte{V: 1}, X: api.Byte{V: 2}, Y: api.Byte{V: 3}, S: api.Byte{V: 4},
		F: api.Flags{P: 0x83}, PC: 5, Op: 0xbd, Addr: 6, Data: api.Byte{V: 7},
		Cross: true, Intr: 1, Nmi: true, Got: true, Pend: 2, Jam: true,
	}
	if got := Erase(full); got != want {
		t.Errorf("Erase(%+v) = %+v", full, got)
	}
	if got := Erase(want); got != want {
		t.Errorf("Erase(%+v) = %+v", want, got)
	}
	if got := Erase(api.Cpu{}); got != (api.Cpu{}) {
		t.Errorf("Erase of zeros = %+v", got)
	}
	c := api.Cpu{T: math.MaxInt, Intr: -1, Pend: math.MinInt, A: api.Byte{V: 9, S: true}}
	if got, want := Erase(c), (api.Cpu{T: math.MaxInt, Intr: -1, Pend: math.MinInt, A: api.Byte{V: 9}}); got != want {
		t.Errorf("Erase of one that may not be = %+v, want %+v", got, want)
	}
}

// holdAlike fails where Alike doesn't tell so of both, and of both the other way around.
func holdAlike(t *testing.T, what string, a, b api.Cpu, want bool) {
	t.Helper()
	if Alike(a, b) != want || Alike(b, a) != want {
		t.Errorf("%s: alike %v, want %v: %+v, %+v", what, Alike(a, b), want, a, b)
	}
}

// places is a processor's bytes, by name.
func places(c *api.Cpu) map[string]*api.Byte {
	return map[string]*api.Byte{"A": &c.A, "X": &c.X, "Y": &c.Y, "S": &c.S, "Data": &c.Data}
}

func TestAlikeOfBytes(t *testing.T) {
	holdAlike(t, "one", full, full, true)
	holdAlike(t, "zeros", api.Cpu{}, api.Cpu{}, true)
	for name := range places(&api.Cpu{}) {
		a, b := full, full
		places(&b)[name].V++
		holdAlike(t, name+" of another secret", a, b, true)
		places(&b)[name].S = false
		holdAlike(t, name+" low in one", a, b, false)
		places(&a)[name].S = false
		holdAlike(t, name+" low", a, b, false)
		places(&b)[name].V--
		holdAlike(t, name+" low and the same", a, b, true)
		places(&b)[name].S = true
		holdAlike(t, name+" of the same value, secret in one", a, b, false)
	}
}

func TestAlikeOfFlags(t *testing.T) {
	for _, bit := range []uint8{1, 2, 4, 8, 64, 128} {
		a, b := full, full
		a.F, b.F = api.Flags{P: 207, S: bit}, api.Flags{P: 207 - bit, S: bit}
		holdAlike(t, "another secret flag", a, b, true)
		b.F.S = 0
		holdAlike(t, "a flag low in one", a, b, false)
		b.F.P = 207
		holdAlike(t, "the same flag low in one", a, b, false)
		a.F.S = 0
		holdAlike(t, "the same low flags", a, b, true)
		b.F.P = 207 - bit
		holdAlike(t, "another low flag", a, b, false)
		a.F.S, b.F.S = 207-bit, 207-bit
		holdAlike(t, "another low flag by secret ones", a, b, false)
	}
}

func TestAlikeOfAddresses(t *testing.T) {
	a, b := full, full
	b.PC = 0x1234
	holdAlike(t, "another secret PC", a, b, true)
	b.PCS = false
	holdAlike(t, "PC low in one", a, b, false)
	b.PC = a.PC
	holdAlike(t, "the same PC low in one", a, b, false)
	a.PCS = false
	holdAlike(t, "the same PC", a, b, true)
	b.PC += 256
	holdAlike(t, "another PC", a, b, false)
	a, b = full, full
	b.Addr, b.Cross = 0x1234, false
	holdAlike(t, "another secret Addr, and Cross", a, b, true)
	b.AddrS = false
	holdAlike(t, "Addr low in one", a, b, false)
	a.AddrS = false
	holdAlike(t, "another Addr, and Cross", a, b, false)
	b.Addr = a.Addr
	holdAlike(t, "another Cross", a, b, false)
	b.Cross = a.Cross
	holdAlike(t, "the same Addr, and Cross", a, b, true)
	b.Addr += 256
	holdAlike(t, "another Addr", a, b, false)
	b.Addr, b.AddrS = a.Addr, true
	holdAlike(t, "the same Addr low in one", a, b, false)
}

func TestAlikeOfAllElse(t *testing.T) {
	for name, change := range map[string]func(*api.Cpu){
		"Op":   func(c *api.Cpu) { c.Op++ },
		"T":    func(c *api.Cpu) { c.T++ },
		"Intr": func(c *api.Cpu) { c.Intr++ },
		"Nmi":  func(c *api.Cpu) { c.Nmi = !c.Nmi },
		"Got":  func(c *api.Cpu) { c.Got = !c.Got },
		"Pend": func(c *api.Cpu) { c.Pend-- },
		"Ctl":  func(c *api.Cpu) { c.Ctl = !c.Ctl },
		"Jam":  func(c *api.Cpu) { c.Jam = !c.Jam },
	} {
		for _, a := range []api.Cpu{full, Erase(full), {}} {
			b := a
			change(&b)
			holdAlike(t, "another "+name, a, b, false)
		}
	}
}

func TestAlikeOfTwins(t *testing.T) {
	chance := chance(2)
	everyTurn(func(op uint8, turn int) {
		a := chance.cpu(op, turn, true)
		holdAlike(t, "a twin", a, chance.twin(a), true)
	})
}
