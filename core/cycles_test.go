package core

import (
	"testing"

	"seepage/api"
)

// P10.2 and P10.3: each mode, cycle by cycle.

// usual is a processor ahead of an instruction.
var usual = api.Cpu{A: api.Byte{V: 0x11}, X: api.Byte{V: 0x22}, Y: api.Byte{V: 0x33}, S: api.Byte{V: 0xfd}, PC: 0x200}

// trace is an instruction: of what processor, over what memory, what is asked for, and what comes of the processor.
type trace struct{ what, cpu, memory, asked, after string }

// holdTrace fails where an instruction isn't as told. What it has on its way plays no part; what stays is held.
func holdTrace(t *testing.T, c trace) {
	t.Helper()
	first := with(t, usual, c.cpu)
	got, asked := play(t, first, memory(t, c.memory))
	if asked != c.asked {
		t.Errorf("%s asks for %s, want %s", c.what, asked, c.asked)
	}
	want := with(t, first, c.after)
	want.Op, want.T, want.Intr = got.Op, 0, api.NoI
	want.Addr, want.AddrS, want.Data, want.Cross = got.Addr, got.AddrS, got.Data, got.Cross
	want.Pend, want.Ctl = got.Pend, got.Ctl
	if got != want {
		t.Errorf("%s: %+v, want %+v", c.what, got, want)
	}
}

func TestCyclesWithoutMemory(t *testing.T) {
	for _, c := range []trace{
		{"NOP", "", "0200: ea", "r0200 r0201", "pc=0201"},
		{"NOP at the end", "pc=ffff", "ffff: ea", "rffff r0000", "pc=0000"},
		{"ASL acc", "", "0200: 0a", "r0200 r0201", "pc=0201 a=22"},
		{"LDA imm", "", "0200: a9 80", "r0200 r0201", "pc=0202 a=80 f=N"},
		{"LDA imm around", "pc=fffe", "fffe: a9 80", "rfffe rffff", "pc=0000 a=80 f=N"},
		{"NOP imm", "", "0200: 80 80", "r0200 r0201", "pc=0202"},
		{"JMP abs", "", "0200: 4c 34 12", "r0200 r0201 r0202", "pc=1234"},
		{"JMP ind", "", "0200: 6c 10 03 / 0310: 34 12", "r0200 r0201 r0202 r0310 r0311", "pc=1234"},
		{"JMP ind around", "", "0200: 6c ff 03 / 03ff: 34 99 / 0300: 12", "r0200 r0201 r0202 r03ff r0300", "pc=1234"},
		{"JMP ind around the first page", "", "0200: 6c ff 00 / 00ff: 34 / 0000: 12", "r0200 r0201 r0202 r00ff r0000", "pc=1234"},
	} {
		holdTrace(t, c)
	}
}

func TestCyclesOfTheStack(t *testing.T) {
	for _, c := range []trace{
		{"JSR", "", "0200: 20 34 12", "r0200 r0201 r01fd w01fd=02 w01fc=02 r0202", "pc=1234 s=fb"},
		{"JSR over a page", "pc=02fd", "02fd: 20 34 12", "r02fd r02fe r01fd w01fd=02 w01fc=ff r02ff", "pc=1234 s=fb"},
		{"JSR over the next page", "pc=02fe", "02fe: 20 34 12", "r02fe r02ff r01fd w01fd=03 w01fc=00 r0300", "pc=1234 s=fb"},
		{"JSR around", "s=00", "0200: 20 34 12", "r0200 r0201 r0100 w0100=02 w01ff=02 r0202", "pc=1234 s=fe"},
		{"JSR whose target it writes itself", "pc=01fb", "01fb: 20 34 12", "r01fb r01fc r01fd w01fd=01 w01fc=fd r01fd", "pc=0134 s=fb"},
		{"RTS", "s=fb", "0200: 60 / 01fc: 34 12", "r0200 r0201 r01fb r01fc r01fd r1234", "pc=1235 s=fd"},
		{"RTS around", "s=fe", "0200: 60 / 01ff: ff / 0100: ff", "r0200 r0201 r01fe r01ff r0100 rffff", "pc=0000 s=00"},
		{"RTI", "s=fa f=I", "0200: 40 / 01fb: 83 34 12", "r0200 r0201 r01fa r01fb r01fc r01fd", "pc=1234 s=fd f=NZC"},
		{"RTI around", "s=fe", "0200: 40 / 01ff: ff / 0100: 34 12", "r0200 r0201 r01fe r01ff r0100 r0101", "pc=1234 s=01 f=NVDIZC"},
		{"PHA", "", "0200: 48", "r0200 r0201 w01fd=11", "pc=0201 s=fc"},
		{"PHA around", "s=00", "0200: 48", "r0200 r0201 w0100=11", "pc=0201 s=ff"},
		{"PHP", "f=NC", "0200: 08", "r0200 r0201 w01fd=b1", "pc=0201 s=fc"},
		{"PLA", "f=NC", "0200: 68 / 01fe: 00", "r0200 r0201 r01fd r01fe", "pc=0201 s=fe a=00 f=ZC"},
		{"PLA of one below 0", "f=ZC", "0200: 68 / 01fe: 80", "r0200 r0201 r01fd r01fe", "pc=0201 s=fe a=80 f=NC"},
		{"PLA around", "s=ff", "0200: 68 / 0100: 05", "r0200 r0201 r01ff r0100", "pc=0201 s=00 a=05"},
		{"PLP", "f=NC", "0200: 28 / 01fe: 7e", "r0200 r0201 r01fd r01fe", "pc=0201 s=fe f=VDIZ"},
		{"PLP of all", "", "0200: 28 / 01fe: ff", "r0200 r0201 r01fd r01fe", "pc=0201 s=fe f=NVDIZC"},
	} {
		holdTrace(t, c)
	}
}

func TestCyclesOfInterrupts(t *testing.T) {
	vectors := "/ fffa: 11 a1 22 a2 33 a3"
	for _, c := range []trace{
		{"BRK", "f=C", "0200: 00" + vectors, "r0200 r0201 w01fd=02 w01fc=02 w01fb=31 rfffe rffff", "pc=a333 s=fa f=CI"},
		{"BRK with IF set", "f=I", "0200: 00" + vectors, "r0200 r0201 w01fd=02 w01fc=02 w01fb=34 rfffe rffff", "pc=a333 s=fa"},
		{"BRK around", "pc=ffff s=01", "ffff: 00 / fffe: 33", "rffff r0000 w0101=00 w0100=01 w01ff=30 rfffe rffff", "pc=0033 s=fe f=I"},
		{"an irq", "i=1 f=C", "0200: a9 05" + vectors, "r0200 r0200 w01fd=02 w01fc=00 w01fb=21 rfffe rffff", "pc=a333 s=fa f=CI i=0"},
		{"an nmi", "i=2 f=C", "0200: 02" + vectors, "r0200 r0200 w01fd=02 w01fc=00 w01fb=21 rfffa rfffb", "pc=a111 s=fa f=CI i=0"},
		{"a reset", "i=3 f=C s=00", "0200: 02" + vectors, "r0200 r0200 r0100 r01ff r01fe rfffc rfffd", "pc=a222 s=fd f=CI i=0"},
	} {
		holdTrace(t, c)
	}
	got, asked := play(t, New(), memory(t, "fffc: 34 12"))
	if want := "r0000 r0000 r0100 r01ff r01fe rfffc rfffd"; asked != want {
		t.Errorf("a new one asks for %s, want %s", asked, want)
	}
	if got.PC != 0x1234 || got.S.V != 0xfd || got.F != (api.Flags{P: api.IF}) || got.Intr != api.NoI || got.Ctl {
		t.Errorf("a new one becomes %+v", got)
	}
}

// What is told of ResetI and of BRK alone holds for no other instruction on its way.
func TestOtherInstructionsPushWhateverInterrupts(t *testing.T) {
	for op, want := range map[uint8]api.Byte{0x20: {V: 0x02}, 0x48: {V: 0x11}, 0x08: {V: 0x30}} {
		c := usual
		c.Op, c.T, c.Intr = op, 2, api.ResetI
		if op == 0x20 {
			c.T = 3
		}
		if got := Ask(c); got != (api.Bus{Addr: 0x1fd, Write: true, V: want}) {
			t.Errorf("%x asks for %+v", op, got)
		}
	}
}

func TestCyclesOfBranches(t *testing.T) {
	for _, c := range []trace{
		{"BNE not taken", "f=Z", "0200: d0 05", "r0200 r0201", "pc=0202"},
		{"BNE", "", "0200: d0 05", "r0200 r0201 r0202", "pc=0207"},
		{"BNE to what is behind it", "", "0200: d0 00", "r0200 r0201 r0202", "pc=0202"},
		{"BNE to itself", "pc=0210", "0210: d0 fe", "r0210 r0211 r0212", "pc=0210"},
		{"BNE back over a page", "", "0200: d0 f0", "r0200 r0201 r0202 r02f2", "pc=01f2"},
		{"BNE as far back as can be", "", "0200: d0 80", "r0200 r0201 r0202 r0282", "pc=0182"},
		{"BNE as far back as can be in a page", "pc=027e", "027e: d0 80", "r027e r027f r0280", "pc=0200"},
		{"BNE over a page", "pc=02f0", "02f0: d0 20", "r02f0 r02f1 r02f2 r0212", "pc=0312"},
		{"BNE as far as can be", "pc=0280", "0280: d0 7f", "r0280 r0281 r0282 r0201", "pc=0301"},
		{"BNE to a page's end", "", "0200: d0 7f", "r0200 r0201 r0202", "pc=0281"},
		{"BNE to the last one of a page", "pc=027e", "027e: d0 7f", "r027e r027f r0280", "pc=02ff"},
		{"BNE to the first one of the next", "pc=027f", "027f: d0 7f", "r027f r0280 r0281 r0200", "pc=0300"},
		{"BNE from behind a page's end", "pc=02fe", "02fe: d0 fe", "r02fe r02ff r0300 r03fe", "pc=02fe"},
		{"BNE over the end", "pc=fff0", "fff0: d0 20", "rfff0 rfff1 rfff2 rff12", "pc=0012"},
		{"BNE over the beginning", "pc=0000", "0000: d0 f0", "r0000 r0001 r0002 r00f2", "pc=fff2"},
	} {
		holdTrace(t, c)
	}
}

// Each branch by its flag, whatever the others are.
func TestEachBranchIsAskedByItsFlag(t *testing.T) {
	for name, c := range map[string]struct {
		op, flag uint8
		set      bool
	}{
		"BPL": {0x10, api.NF, false}, "BMI": {0x30, api.NF, true},
		"BVC": {0x50, api.VF, false}, "BVS": {0x70, api.VF, true},
		"BCC": {0x90, api.CF, false}, "BCS": {0xb0, api.CF, true},
		"BNE": {0xd0, api.ZF, false}, "BEQ": {0xf0, api.ZF, true},
	} {
		for p := range 256 {
			cpu := usual
			cpu.F.P = uint8(p) & 207
			got, _ := play(t, cpu, map[uint16]api.Byte{0x200: {V: c.op}, 0x201: {V: 7}})
			want := uint16(0x202)
			if (cpu.F.P&c.flag != 0) == c.set {
				want = 0x209
			}
			if got.PC != want || got.Ctl {
				t.Errorf("%s with the flags %x goes to %x, want %x", name, p, got.PC, want)
			}
		}
	}
}

func TestCyclesOfWhatReads(t *testing.T) {
	for _, c := range []trace{
		{"LDA zp", "", "0200: a5 10 / 0010: 05", "r0200 r0201 r0010", "pc=0202 a=05"},
		{"LDA zpx", "", "0200: b5 10 / 0032: 05", "r0200 r0201 r0010 r0032", "pc=0202 a=05"},
		{"LDA zpx around", "", "0200: b5 f0 / 0012: 05", "r0200 r0201 r00f0 r0012", "pc=0202 a=05"},
		{"LDX zpy", "", "0200: b6 10 / 0043: 05", "r0200 r0201 r0010 r0043", "pc=0202 x=05"},
		{"LDX zpy around", "", "0200: b6 f0 / 0023: 05", "r0200 r0201 r00f0 r0023", "pc=0202 x=05"},
		{"LDA abs", "", "0200: ad 34 12 / 1234: 05", "r0200 r0201 r0202 r1234", "pc=0203 a=05"},
		{"LDA abx", "", "0200: bd 34 12 / 1256: 05", "r0200 r0201 r0202 r1256", "pc=0203 a=05"},
		{"LDA abx over a page", "", "0200: bd f0 12 / 1312: 05", "r0200 r0201 r0202 r1212 r1312", "pc=0203 a=05"},
		{"LDA abx at a page's end", "", "0200: bd dd 12 / 12ff: 05", "r0200 r0201 r0202 r12ff", "pc=0203 a=05"},
		{"LDA abx just over a page", "", "0200: bd de 12 / 1300: 05", "r0200 r0201 r0202 r1200 r1300", "pc=0203 a=05"},
		{"LDA abx over the end", "", "0200: bd f0 ff / 0012: 05", "r0200 r0201 r0202 rff12 r0012", "pc=0203 a=05"},
		{"LDA abx by 0", "x=00", "0200: bd ff 12 / 12ff: 05", "r0200 r0201 r0202 r12ff", "pc=0203 a=05"},
		{"LDA aby", "", "0200: b9 34 12 / 1267: 05", "r0200 r0201 r0202 r1267", "pc=0203 a=05"},
		{"LDA aby over a page", "", "0200: b9 f0 12 / 1323: 05", "r0200 r0201 r0202 r1223 r1323", "pc=0203 a=05"},
		{"LDA izx", "", "0200: a1 10 / 0032: 34 12 / 1234: 05", "r0200 r0201 r0010 r0032 r0033 r1234", "pc=0202 a=05"},
		{"LDA izx around", "", "0200: a1 dd / 00ff: 34 / 0000: 12 / 1234: 05", "r0200 r0201 r00dd r00ff r0000 r1234", "pc=0202 a=05"},
		{"LDA izx far around", "", "0200: a1 f0 / 0012: 34 12 / 1234: 05", "r0200 r0201 r00f0 r0012 r0013 r1234", "pc=0202 a=05"},
		{"LDA izy", "", "0200: b1 10 / 0010: 34 12 / 1267: 05", "r0200 r0201 r0010 r0011 r1267", "pc=0202 a=05"},
		{"LDA izy around", "", "0200: b1 ff / 00ff: 34 / 0000: 12 / 1267: 05", "r0200 r0201 r00ff r0000 r1267", "pc=0202 a=05"},
		{"LDA izy over a page", "", "0200: b1 10 / 0010: f0 12 / 1323: 05", "r0200 r0201 r0010 r0011 r1223 r1323", "pc=0202 a=05"},
	} {
		holdTrace(t, c)
	}
}

func TestCyclesOfWhatWrites(t *testing.T) {
	for _, c := range []trace{
		{"STA zp", "", "0200: 85 10", "r0200 r0201 w0010=11", "pc=0202"},
		{"STY zpx", "", "0200: 94 f0", "r0200 r0201 r00f0 w0012=33", "pc=0202"},
		{"STX zpy", "", "0200: 96 f0", "r0200 r0201 r00f0 w0023=22", "pc=0202"},
		{"STX abs", "", "0200: 8e 34 12", "r0200 r0201 r0202 w1234=22", "pc=0203"},
		{"STA abx", "", "0200: 9d 34 12", "r0200 r0201 r0202 r1256 w1256=11", "pc=0203"},
		{"STA abx over a page", "", "0200: 9d f0 12", "r0200 r0201 r0202 r1212 w1312=11", "pc=0203"},
		{"STA aby over the end", "", "0200: 99 f0 ff", "r0200 r0201 r0202 rff23 w0023=11", "pc=0203"},
		{"STA izx", "", "0200: 81 10 / 0032: 34 12", "r0200 r0201 r0010 r0032 r0033 w1234=11", "pc=0202"},
		{"STA izy", "", "0200: 91 10 / 0010: 34 12", "r0200 r0201 r0010 r0011 r1267 w1267=11", "pc=0202"},
		{"STA izy over a page", "", "0200: 91 10 / 0010: f0 12", "r0200 r0201 r0010 r0011 r1223 w1323=11", "pc=0202"},
		{"SAX abs", "a=3c x=0f", "0200: 8f 34 12", "r0200 r0201 r0202 w1234=0c", "pc=0203"},
		{"SHX", "y=01", "0200: 9e 34 12", "r0200 r0201 r0202 r1235 w1235=02", "pc=0203"},
		{"SHX over a page", "x=3f", "0200: 9e f0 12", "r0200 r0201 r0202 r1223 w1323=13", "pc=0203"},
		{"SHX over a page, elsewhere", "x=f1", "0200: 9e f0 12", "r0200 r0201 r0202 r1223 w1123=11", "pc=0203"},
		{"SHX at the end", "y=01 x=ff", "0200: 9e 34 ff", "r0200 r0201 r0202 rff35 wff35=00", "pc=0203"},
		{"SHX over the end", "x=ff", "0200: 9e f0 ff", "r0200 r0201 r0202 rff23 w0023=00", "pc=0203"},
		{"SHY", "x=01", "0200: 9c 34 12", "r0200 r0201 r0202 r1235 w1235=13", "pc=0203"},
		{"SHY over a page, elsewhere", "x=ff y=0f", "0200: 9c 02 26", "r0200 r0201 r0202 r2601 w0701=07", "pc=0203"},
		{"SHA aby", "a=1f x=f3 y=01", "0200: 9f 34 12", "r0200 r0201 r0202 r1235 w1235=13", "pc=0203"},
		{"SHA aby over a page", "a=1e x=f3", "0200: 9f f0 12", "r0200 r0201 r0202 r1223 w1223=12", "pc=0203"},
		{"SHA izy", "a=1f x=f3 y=01", "0200: 93 10 / 0010: 34 12", "r0200 r0201 r0010 r0011 r1235 w1235=13", "pc=0202"},
		{"SHA izy over a page", "a=1e x=f3", "0200: 93 10 / 0010: f0 12", "r0200 r0201 r0010 r0011 r1223 w1223=12", "pc=0202"},
		{"TAS", "a=1f x=f3 y=01", "0200: 9b 34 24", "r0200 r0201 r0202 r2435 w2435=01", "pc=0203 s=13"},
		{"TAS over a page", "a=1e x=f3", "0200: 9b f0 12", "r0200 r0201 r0202 r1223 w1223=12", "pc=0203 s=12"},
	} {
		holdTrace(t, c)
	}
}

func TestCyclesOfWhatReadsAndWrites(t *testing.T) {
	for _, c := range []trace{
		{"INC zp", "", "0200: e6 10 / 0010: ff", "r0200 r0201 r0010 w0010=ff w0010=00", "pc=0202 f=Z"},
		{"ASL zpx", "", "0200: 16 f0 / 0012: 81", "r0200 r0201 r00f0 r0012 w0012=81 w0012=02", "pc=0202 f=C"},
		{"DEC abs", "", "0200: ce 34 12", "r0200 r0201 r0202 r1234 w1234=00 w1234=ff", "pc=0203 f=N"},
		{"ROR abx", "f=C", "0200: 7e 34 12 / 1256: 02", "r0200 r0201 r0202 r1256 r1256 w1256=02 w1256=81", "pc=0203 f=N"},
		{"LSR abx over a page", "", "0200: 5e f0 12 / 1312: 05", "r0200 r0201 r0202 r1212 r1312 w1312=05 w1312=02", "pc=0203 f=C"},
		{"SLO aby", "", "0200: 1b 34 12 / 1267: 82", "r0200 r0201 r0202 r1267 r1267 w1267=82 w1267=04", "pc=0203 a=15 f=C"},
		{"RRA aby over a page", "", "0200: 7b f0 12 / 1323: 05", "r0200 r0201 r0202 r1223 r1323 w1323=05 w1323=02", "pc=0203 a=14"},
		{"DCP izx", "", "0200: c3 10 / 0032: 34 12 / 1234: 12", "r0200 r0201 r0010 r0032 r0033 r1234 w1234=12 w1234=11", "pc=0202 f=ZC"},
		{"ISC izy", "f=C", "0200: f3 10 / 0010: 34 12 / 1267: 0f", "r0200 r0201 r0010 r0011 r1267 r1267 w1267=0f w1267=10", "pc=0202 a=01 f=C"},
		{"SRE izy over a page", "", "0200: 53 10 / 0010: f0 12 / 1323: 03", "r0200 r0201 r0010 r0011 r1223 r1323 w1323=03 w1323=01", "pc=0202 a=10 f=C"},
	} {
		holdTrace(t, c)
	}
}

// Behind JAM there is no end; it has come in the second cycle.
func TestCyclesOfTheEnd(t *testing.T) {
	for _, op := range []uint8{0x02, 0x12, 0x22, 0x32, 0x42, 0x52, 0x62, 0x72, 0x92, 0xb2, 0xd2, 0xf2} {
		m := map[uint16]api.Byte{0x200: {V: op}, 0xffff: {V: 0xea}}
		c, b := cycle(t, usual, m, api.Lines{})
		if b.Addr != 0x200 || c.Jam || c.T != 1 {
			t.Errorf("%x begins with %+v, %+v", op, b, c)
		}
		for range 50 {
			c, b = cycle(t, c, m, api.Lines{Irq: true, Nmi: c.Nmi})
			want := usual
			want.PC, want.Op, want.T, want.Jam, want.Pend = 0x201, op, 1, true, api.IrqI
			if c != want || b != (api.Bus{Addr: 65535}) {
				t.Fatalf("%x goes on with %+v, %+v", op, b, c)
			}
		}
		if c, _ = cycle(t, c, m, api.Lines{Reset: true}); c.Jam || c.T != 0 || c.Intr != api.ResetI {
			t.Errorf("%x, and reset: %+v", op, c)
		}
	}
}

// What is on its way is left by nothing: an instruction begins anew.
func TestTheFirstCycleBeginsAnew(t *testing.T) {
	old := usual
	old.Op, old.Addr, old.AddrS, old.Data, old.Cross = 0x77, 0x1234, true, api.Byte{V: 9, S: true}, true
	for intr := range 4 {
		c := old
		c.Intr = intr
		want := usual
		want.Intr, want.T = intr, 1
		if intr == api.NoI {
			want.Op, want.PC = 0xa9, 0x201
		}
		if got, e := Take(c, api.Byte{V: 0xa9}, api.Lines{}); got != want || e != api.OK {
			t.Errorf("with %d: %+v, want %+v", intr, got, want)
		}
	}
}
