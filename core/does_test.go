package core

import (
	"slices"
	"testing"

	"seepage/api"
	"seepage/opcode"
)

// P10.3: each instruction's work.

// doing is what an instruction does: its opcode, of what processor, with what byte of memory, and what comes of the processor, and of that byte where it is written.
type doing struct {
	op                   uint8
	cpu, v, after, write string
}

// holdDoing fails where an instruction doesn't do as told. What it works on is at 0040, or behind it, by its mode.
func holdDoing(t *testing.T, c doing) {
	t.Helper()
	o := opcode.Decode(c.op)
	m := map[uint16]api.Byte{0x200: {V: c.op}, 0x201: {V: 0x40}, 0x40: octet(t, c.v)}
	if o.Mode == api.ImmM {
		m[0x201] = m[0x40]
	}
	first := with(t, api.Cpu{PC: 0x200}, c.cpu)
	got, asked := play(t, first, m)
	want := with(t, first, c.after)
	if got.A != want.A || got.X != want.X || got.Y != want.Y || got.S != want.S || got.F != want.F {
		t.Errorf("%s (%x) of %s with %s: %v, want %v", o.Name, c.op, c.cpu, c.v, got, want)
	}
	told := first.F.S&api.IF != 0 // nothing else tells here
	if got.T != 0 || got.PC != 0x200+uint16(opcode.Long(o)) || got.PCS || got.Ctl != told {
		t.Errorf("%s (%x) of %s with %s, which asks for %s, becomes %+v", o.Name, c.op, c.cpu, c.v, asked, got)
	}
	if c.write == "" {
		c.write = c.v
	}
	if b := m[0x40]; b != octet(t, c.write) {
		t.Errorf("%s (%x) of %s leaves %v, want %s", o.Name, c.op, c.cpu, b, c.write)
	}
}

// doings is what each instruction does that is done with a byte of memory, or without.
func doings() []doing {
	return []doing{
		{0x09, "a=0a f=NC", "03", "a=0b f=C", ""},
		{0x09, "a=0a", "80!", "a=8a! f=N!z!", ""},
		{0x09, "a=00! f=N", "00", "a=00! f=n!Z!", ""},
		{0x29, "a=0a", "06", "a=02", ""},
		{0x29, "a=0a", "00!", "a=00! f=n!Z!", ""},
		{0x49, "a=8a", "06", "a=8c f=N", ""},
		{0x49, "a=8a!", "8a", "a=00! f=n!Z!", ""},
		{0x69, "a=7f f=C", "01", "a=81 f=NV", ""},
		{0x69, "a=ff", "01", "a=00 f=ZC", ""},
		{0x69, "a=01 f=C!D", "01", "a=03! f=n!z!v!c!D", ""},
		{0xe9, "a=05 f=C", "05", "a=00 f=ZC", ""},
		{0xe9, "a=80", "00", "a=7f f=VC", ""},
		{0xeb, "a=05 f=C", "06!", "a=ff! f=N!z!v!c!", ""},
		{0xc9, "a=05", "06", "f=N", ""},
		{0xc9, "a=06 x=77 y=77", "06", "f=ZC", ""},
		{0xe0, "x=05 a=77 y=77", "05", "f=ZC", ""},
		{0xe0, "x=05!", "06", "f=N!z!c!", ""},
		{0xc0, "y=05 a=77 x=77", "04", "f=C", ""},
		{0xc0, "y=05", "04!", "f=n!z!C!", ""},
		{0x24, "a=0f f=C", "c0", "f=NVZC", ""},
		{0x24, "a=0f!", "41", "f=Vz!", ""},
		{0xa9, "", "05!", "a=05! f=n!z!", ""},
		{0xa9, "a=01! f=N!z!C", "00", "a=00 f=ZC", ""},
		{0xa2, "", "85", "x=85 f=N", ""},
		{0xa0, "", "85!", "y=85! f=N!z!", ""},
		{0xa7, "f=Z", "85!", "a=85! x=85! f=N!z!", ""},
		{0x0b, "a=8a", "ff", "a=8a f=NC", ""},
		{0x2b, "a=8a! f=C", "7f", "a=0a! f=n!z!c!", ""},
		{0x4b, "a=0f", "05", "a=02 f=C", ""},
		{0x4b, "a=0f f=N", "04!", "a=02! f=n!z!c!", ""},
		{0x6b, "a=ff f=C", "c0", "a=e0 f=NC", ""},
		{0x6b, "a=80 f=C!", "80", "a=c0! f=N!z!V!C!", ""},
		{0xcb, "a=0f x=3c", "02", "x=0a f=C", ""},
		{0xcb, "a=0f x=3c! f=V", "0d", "x=ff! f=N!z!c!V", ""},
		{0x8b, "a=01 x=ff", "1f", "a=0f", ""},
		{0x8b, "a=00 x=5e", "fc", "a=4c", ""},
		{0x8b, "a=01! x=80", "ff", "a=80! f=N!z!", ""},
		{0x8b, "a=01 x=01!", "10", "a=00! f=n!Z!", ""},
		{0xab, "a=00", "ff", "a=ee x=ee f=N", ""},
		{0xab, "a=01! x=55", "11", "a=01! x=01! f=n!z!", ""},
		{0x80, "a=01 f=N", "00!", "", ""},
		{0x04, "a=01 f=N", "00!", "", ""},

		{0xaa, "a=00! x=05", "00", "x=00! f=n!Z!", ""},
		{0xa8, "a=85 y=05", "00", "y=85 f=N", ""},
		{0x8a, "x=85 a=05", "00", "a=85 f=N", ""},
		{0x98, "y=00 a=05", "00", "a=00 f=Z", ""},
		{0xba, "s=85!", "00", "x=85! f=N!z!", ""},
		{0x9a, "x=85! f=Z", "00", "s=85!", ""},
		{0xe8, "x=ff! f=N", "00", "x=00! f=n!Z!", ""},
		{0xe8, "x=7f", "00", "x=80 f=N", ""},
		{0xc8, "y=ff", "00", "y=00 f=Z", ""},
		{0xca, "x=00", "00", "x=ff f=N", ""},
		{0xca, "x=01!", "00", "x=00! f=n!Z!", ""},
		{0x88, "y=81", "00", "y=80 f=N", ""},
		{0x18, "f=N!V!D!I!Z!C!", "00", "f=N!V!D!I!Z!c", ""},
		{0x38, "f=n!v!d!i!z!c!", "00", "f=n!v!d!i!z!C", ""},
		{0x58, "f=N!V!D!I!Z!C!", "00", "f=N!V!D!iZ!C!", ""},
		{0x78, "f=n!v!d!i!z!c!", "00", "f=n!v!d!Iz!c!", ""},
		{0xd8, "f=N!V!D!IZ!C!", "00", "f=N!V!dIZ!C!", ""},
		{0xf8, "f=n!v!d!iz!c!", "00", "f=n!v!Diz!c!", ""},
		{0xb8, "f=N!V!D!Z!C!", "00", "f=N!vD!Z!C!", ""},
		{0xea, "a=80 f=Z", "00", "", ""},
		{0x1a, "a=80 f=Z", "00", "", ""},

		{0x0a, "a=c1!", "00", "a=82! f=N!z!C!", ""},
		{0x4a, "a=01", "00", "a=00 f=ZC", ""},
		{0x2a, "a=40 f=C!", "00", "a=81! f=N!z!c", ""},
		{0x6a, "a=02 f=C", "00", "a=81 f=N", ""},

		{0x06, "a=77", "c1!", "f=N!z!C!", "82!"},
		{0x46, "a=77 f=N", "03", "f=C", "01"},
		{0x26, "f=C", "80", "f=C", "01"},
		{0x66, "f=C!", "01", "f=N!z!C", "80!"},
		{0xe6, "f=C", "ff!", "f=n!Z!C", "00!"},
		{0xc6, "f=C", "00", "f=NC", "ff"},
		{0x07, "a=01", "c1", "a=83 f=NC", "82"},
		{0x07, "a=01!", "01", "a=03! f=n!z!", "02"},
		{0x27, "a=07 f=C", "81", "a=03 f=C", "03"},
		{0x27, "a=07 f=C!", "40", "a=01! f=n!z!", "81!"},
		{0x47, "a=81", "03", "a=80 f=NC", "01"},
		{0x67, "a=10", "03", "a=12", "01"},
		{0x67, "a=10 f=C", "02", "a=91 f=N", "81"},
		{0x67, "a=10", "02!", "a=11! f=n!z!v!c!", "01!"},
		{0xc7, "a=11", "12", "f=ZC", "11"},
		{0xc7, "a=10!", "12", "f=N!z!c!", "11"},
		{0xe7, "a=11 f=C", "0f", "a=01 f=C", "10"},
		{0xe7, "a=11!", "0f", "a=00! f=n!Z!v!C!", "10"},

		{0x85, "a=80! f=Z", "00", "", "80!"},
		{0x86, "x=80! f=Z", "00", "", "80!"},
		{0x84, "y=80! f=Z", "00", "", "80!"},
		{0x87, "a=83 x=81! f=Z", "00", "", "81!"},
		{0x87, "a=83! x=00", "05", "", "00!"},
		{0x85, "a=80", "00!", "", "80"},
	}
}

func TestWhatInstructionsDo(t *testing.T) {
	for _, c := range doings() {
		holdDoing(t, c)
	}
}

// All names are held, here or by their cycles.
func TestAllNamesAreHeld(t *testing.T) {
	var held []string
	for _, c := range doings() {
		held = append(held, opcode.Decode(c.op).Name)
	}
	elsewhere := []string{
		"BCC", "BCS", "BEQ", "BMI", "BNE", "BPL", "BVC", "BVS",
		"BRK", "JAM", "JMP", "JSR", "PHA", "PHP", "PLA", "PLP", "RTI", "RTS",
		"LAS", "SHA", "SHX", "SHY", "TAS",
	}
	for op := range 256 {
		if name := opcode.Decode(uint8(op)).Name; !slices.Contains(held, name) && !slices.Contains(elsewhere, name) {
			t.Errorf("%s is not held", name)
		}
	}
}

// LAS, which is of one mode alone.
func TestLas(t *testing.T) {
	for _, c := range []trace{
		{"LAS", "s=f6 y=01", "0200: bb 34 12 / 1235: 93", "r0200 r0201 r0202 r1235", "pc=0203 a=92 x=92 s=92 f=N"},
		{"LAS over a page", "s=f6", "0200: bb f0 12 / 1323: 09!", "r0200 r0201 r0202 r1223 r1323", "pc=0203 a=00! x=00! s=00! f=n!Z!"},
		{"LAS of a secret stack", "s=f6! f=C", "0200: bb 34 12 / 1267: ff", "r0200 r0201 r0202 r1267", "pc=0203 a=f6! x=f6! s=f6! f=N!z!C"},
	} {
		holdTrace(t, c)
	}
}

// What is asked for tells what comes of it; what comes of the processor comes behind that, once.
func TestWhatIsWrittenComesOnce(t *testing.T) {
	c := api.Cpu{A: api.Byte{V: 1}, F: api.Flags{P: api.CF}, PC: 0x202, Op: 0x27, T: 4, Addr: 0x40, Data: api.Byte{V: 0x81}}
	for range 3 {
		if got := Ask(c); got != (api.Bus{Addr: 0x40, Write: true, V: api.Byte{V: 3}}) {
			t.Fatalf("RLA asks for %+v", got)
		}
	}
	got, e := Take(c, api.Byte{V: 0x55, S: true}, api.Lines{})
	want := c
	want.T, want.A, want.F = 0, api.Byte{V: 1}, api.Flags{P: api.CF}
	if got != want || e != api.OK {
		t.Errorf("RLA becomes %+v, want %+v", got, want)
	}
	c.T = 3
	if got := Ask(c); got != (api.Bus{Addr: 0x40, Write: true, V: api.Byte{V: 0x81}}) {
		t.Errorf("RLA asks ahead for %+v", got)
	}
	want = c
	want.T = 4
	if got, _ := Take(c, api.Byte{V: 0x55, S: true}, api.Lines{}); got != want {
		t.Errorf("RLA becomes ahead %+v, want %+v", got, want)
	}
}
