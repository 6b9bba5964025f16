package core

import (
	"testing"

	"seepage/api"
)

// P10.3: what is secret, and when a secret tells what the processor does.

func TestSecretsOnTheirWay(t *testing.T) {
	for _, c := range []trace{
		{"LDA zp of a secret", "", "0200: a5 10 / 0010: 05!", "r0200 r0201 r0010", "pc=0202 a=05! f=n!z!"},
		{"LDA zp where it is secret", "", "0200: a5 10! / 0010: 05", "r0200 r0201 r0010!", "pc=0202 a=05"},
		{"LDA zpx by a secret", "x=22!", "0200: b5 10 / 0032: 05", "r0200 r0201 r0010 r0032!", "pc=0202 a=05"},
		{"LDX zpy by a secret", "y=33!", "0200: b6 10 / 0043: 05", "r0200 r0201 r0010 r0043!", "pc=0202 x=05"},
		{"LDA zpx from what is secret", "", "0200: b5 10! / 0032: 05", "r0200 r0201 r0010! r0032!", "pc=0202 a=05"},
		{"LDA abs, low half secret", "", "0200: ad 34! 12 / 1234: 05", "r0200 r0201 r0202 r1234!", "pc=0203 a=05"},
		{"LDA abs, high half secret", "", "0200: ad 34 12! / 1234: 05", "r0200 r0201 r0202 r1234!", "pc=0203 a=05"},
		{"LDA abx by a secret", "x=22!", "0200: bd f0 12 / 1312: 05", "r0200 r0201 r0202 r1212! r1312!", "pc=0203 a=05"},
		{"LDA abx, low half secret", "", "0200: bd 34! 12 / 1256: 05", "r0200 r0201 r0202 r1256!", "pc=0203 a=05"},
		{"LDA aby, high half secret", "", "0200: b9 34 12! / 1267: 05", "r0200 r0201 r0202 r1267!", "pc=0203 a=05"},
		{"LDA abx beside a secret Y", "y=33!", "0200: bd 34 12 / 1256: 05", "r0200 r0201 r0202 r1256", "pc=0203 a=05"},
		{"LDA izx by a secret", "x=22!", "0200: a1 10 / 0032: 34 12 / 1234: 05", "r0200 r0201 r0010 r0032! r0033! r1234!", "pc=0202 a=05"},
		{"LDA izx of a secret pointer", "", "0200: a1 10 / 0032: 34! 12 / 1234: 05", "r0200 r0201 r0010 r0032 r0033 r1234!", "pc=0202 a=05"},
		{"LDA izx of a pointer's secret half", "", "0200: a1 10 / 0032: 34 12! / 1234: 05", "r0200 r0201 r0010 r0032 r0033 r1234!", "pc=0202 a=05"},
		{"LDA izy by a secret", "y=33!", "0200: b1 10 / 0010: 34 12 / 1267: 05", "r0200 r0201 r0010 r0011 r1267!", "pc=0202 a=05"},
		{"LDA izy where the pointer is secret", "", "0200: b1 10! / 0010: 34 12 / 1267: 05", "r0200 r0201 r0010! r0011! r1267!", "pc=0202 a=05"},
		{"JMP ind, whose pointer is secret", "", "0200: 6c 10! 03 / 0310: 34 12", "r0200 r0201 r0202 r0310! r0311!", "pc=1234"},
		{"JMP ind to a secret", "", "0200: 6c 10 03 / 0310: 34 12!", "r0200 r0201 r0202 r0310 r0311", "pc=1234!"},
		{"JMP abs to a secret", "", "0200: 4c 34! 12", "r0200 r0201 r0202", "pc=1234!"},
		{"JMP abs to a secret page", "", "0200: 4c 34 12!", "r0200 r0201 r0202", "pc=1234!"},
		{"JMP abs from a secret to what is low", "pc=0200!", "0200: 4c 34 12", "r0200! r0201! r0202!", "pc=1234"},
		{"JSR from a secret", "pc=0200!", "0200: 20 34 12", "r0200! r0201! r01fd w01fd=02! w01fc=02! r0202!", "pc=1234 s=fb"},
		{"JSR to a secret", "", "0200: 20 34! 12", "r0200 r0201 r01fd w01fd=02 w01fc=02 r0202", "pc=1234! s=fb"},
		{"JSR with a secret stack", "s=fd!", "0200: 20 34 12", "r0200 r0201 r01fd! w01fd!=02 w01fc!=02 r0202", "pc=1234 s=fb!"},
		{"RTS to a secret", "s=fb", "0200: 60 / 01fc: 34! 12", "r0200 r0201 r01fb r01fc r01fd r1234!", "pc=1235! s=fd"},
		{"RTS to a secret page", "s=fb", "0200: 60 / 01fc: 34 12!", "r0200 r0201 r01fb r01fc r01fd r1234!", "pc=1235! s=fd"},
		{"RTS with a secret stack", "s=fb!", "0200: 60 / 01fc: 34 12", "r0200 r0201 r01fb! r01fc! r01fd! r1234", "pc=1235 s=fd!"},
		{"RTI to secret flags", "s=fa", "0200: 40 / 01fb: 83! 34 12", "r0200 r0201 r01fa r01fb r01fc r01fd", "pc=1234 s=fd f=N!v!d!i!Z!C!"},
		{"RTI to a secret", "s=fa", "0200: 40 / 01fb: 00 34! 12", "r0200 r0201 r01fa r01fb r01fc r01fd", "pc=1234! s=fd"},
		{"PHA of a secret", "a=11! f=C!", "0200: 48", "r0200 r0201 w01fd=11!", "pc=0201 s=fc"},
		{"PHP of a secret", "a=11! f=C!", "0200: 08", "r0200 r0201 w01fd=31!", "pc=0201 s=fc"},
		{"PHP of what is low", "a=11! f=C", "0200: 08", "r0200 r0201 w01fd=31", "pc=0201 s=fc"},
		{"PLA of a secret", "", "0200: 68 / 01fe: 00!", "r0200 r0201 r01fd r01fe", "pc=0201 s=fe a=00! f=n!Z!"},
		{"PLP of a secret", "", "0200: 28 / 01fe: 81!", "r0200 r0201 r01fd r01fe", "pc=0201 s=fe f=N!v!d!i!z!C!"},
		{"BRK with a secret flag", "f=C!", "0200: 00 / fffe: 34 12", "r0200 r0201 w01fd=02 w01fc=02 w01fb=31! rfffe rffff", "pc=1234 s=fa f=C!I"},
		{"BRK with a secret IF", "f=I!", "0200: 00 / fffe: 34 12", "r0200 r0201 w01fd=02 w01fc=02 w01fb=34! rfffe rffff", "pc=1234 s=fa f=I"},
		{"BRK to a secret", "", "0200: 00 / fffe: 34! 12", "r0200 r0201 w01fd=02 w01fc=02 w01fb=30 rfffe rffff", "pc=1234! s=fa f=I"},
		{"BRK to a secret page", "", "0200: 00 / fffe: 34 12!", "r0200 r0201 w01fd=02 w01fc=02 w01fb=30 rfffe rffff", "pc=1234! s=fa f=I"},
		{"STA of a secret", "a=11!", "0200: 8d 34 12", "r0200 r0201 r0202 w1234=11!", "pc=0203"},
		{"STA by a secret", "x=22!", "0200: 9d 34 12", "r0200 r0201 r0202 r1256! w1256!=11", "pc=0203"},
		{"SAX of a secret", "x=22!", "0200: 8f 34 12", "r0200 r0201 r0202 w1234=00!", "pc=0203"},
		{"SHY of a secret", "x=01 y=33!", "0200: 9c 34 12", "r0200 r0201 r0202 r1235 w1235=13!", "pc=0203"},
		{"SHY of a secret over a page", "y=33!", "0200: 9c f0 12", "r0200 r0201 r0202 r1212 w1312!=13!", "pc=0203"},
		{"SHY by a secret", "x=01!", "0200: 9c 34 12", "r0200 r0201 r0202 r1235! w1235!=13!", "pc=0203"},
		{"SHA of a secret", "a=ff! x=ff y=01", "0200: 9f 34 12", "r0200 r0201 r0202 r1235 w1235=13!", "pc=0203"},
		{"TAS of a secret", "a=ff x=fe! y=01", "0200: 9b 34 12", "r0200 r0201 r0202 r1235 w1235=12!", "pc=0203 s=fe!"},
		{"TAS by a secret", "a=ff x=fe y=01!", "0200: 9b 34 12", "r0200 r0201 r0202 r1235! w1235!=12!", "pc=0203 s=fe"},
		{"INC of a secret", "", "0200: e6 10 / 0010: ff!", "r0200 r0201 r0010 w0010=ff! w0010=00!", "pc=0202 f=n!Z!"},
		{"ROL by a secret", "f=C!", "0200: 26 10 / 0010: 81", "r0200 r0201 r0010 w0010=81 w0010=03!", "pc=0202 f=Cn!z!"},
		{"BNE to a secret", "", "0200: d0 05!", "r0200 r0201 r0202!", "pc=0207!"},
		{"BNE to a secret over a page", "", "0200: d0 f0!", "r0200 r0201 r0202! r02f2!", "pc=01f2!"},
		{"BNE to a secret, not taken", "f=Z", "0200: d0 05!", "r0200 r0201", "pc=0202"},
		{"BNE from a secret", "pc=0200!", "0200: d0 05", "r0200! r0201! r0202!", "pc=0207!"},
	} {
		holdTrace(t, c)
	}
}

// telling is an instruction, and behind which of its cycles Ctl is set: 0, if behind none.
type telling struct {
	what, cpu, memory string
	at                int
}

func TestWhenASecretTells(t *testing.T) {
	for _, c := range []telling{
		{"LDA imm of a secret", "", "0200: a9 05!", 0},
		{"a secret on all ways but one that tells", "a=11! x=22! y=33! f=C!N!V!Z!D!", "0200: 69 05!", 0},
		{"LDA zp of a secret", "", "0200: a5 10 / 0010: 05!", 0},
		{"a secret opcode", "", "0200: ea!", 1},
		{"a secret opcode that is not read", "i=1", "0200: ea!", 0},
		{"a secret PC", "pc=0200!", "0200: ea", 1},
		{"a secret PC that is not read as one", "i=1 pc=0200!", "0200: ea", 1},
		{"a secret byte that is not read as one", "", "0200: ea ea!", 0},
		{"LDA zp where it is secret", "", "0200: a5 10!", 3},
		{"LDA zpx by a secret", "x=22!", "0200: b5 10", 4},
		{"LDA abx by a secret", "x=22!", "0200: bd 34 12", 4},
		{"LDA izx by a secret", "x=22!", "0200: a1 10", 4},
		{"LDA izy by a secret", "y=33!", "0200: b1 10", 5},
		{"STA abs where it is secret", "", "0200: 8d 34! 12", 4},
		{"STA of a secret", "a=11!", "0200: 8d 34 12", 0},
		{"INC of a secret", "", "0200: e6 10 / 0010: ff!", 0},
		{"SHY of a secret", "x=01 y=33!", "0200: 9c 34 12", 0},
		{"SHY of a secret over a page", "y=33!", "0200: 9c f0 12", 5},
		{"PHA of a secret", "a=11!", "0200: 48", 0},
		{"PHA with a secret stack", "s=fd!", "0200: 48", 3},
		{"PLA with a secret stack", "s=fd!", "0200: 68", 3},
		{"TXS of a secret", "x=11!", "0200: 9a", 0},
		{"BNE by a secret", "f=z!", "0200: d0 05", 2},
		{"BNE by a secret, not taken", "f=Z!", "0200: d0 05", 2},
		{"BPL by a secret", "f=n!", "0200: 10 05", 2},
		{"BVC by a secret", "f=v!", "0200: 50 05", 2},
		{"BCC by a secret", "f=c!", "0200: 90 05", 2},
		{"BNE beside secrets", "f=n!v!c!d!", "0200: d0 05", 0},
		{"BPL beside secrets", "f=z!v!c!d!", "0200: 10 05", 0},
		{"BVC beside secrets", "f=n!z!c!d!", "0200: 50 05", 0},
		{"BCC beside secrets", "f=n!v!z!d!", "0200: 90 05", 0},
		{"BNE to a secret", "", "0200: d0 05!", 3},
		{"BNE to a secret, not taken", "f=Z", "0200: d0 05!", 0},
		{"JMP abs to a secret", "", "0200: 4c 34! 12", 0},
		{"JMP ind by a secret", "", "0200: 6c 10! 03", 4},
		{"RTS to a secret", "s=fb", "0200: 60 / 01fc: 34! 12", 6},
		{"PLP of a secret", "", "0200: 28 / 01fe: 00!", 4},
		{"RTI to secret flags", "s=fa", "0200: 40 / 01fb: 00!", 4},
		{"a secret IF", "f=i!", "0200: ea", 1},
		{"CLI", "", "0200: 58", 0},
		{"BRK to a secret", "", "0200: 00 / fffe: 34! 12", 0},
		{"BRK with a secret flag", "f=C!", "0200: 00", 0},
		{"BRK with a secret stack", "s=fd!", "0200: 00", 3},
		{"reset with a secret stack", "i=3 s=fd!", "0200: 00", 3},
		{"JAM", "", "0200: 02 02! / ffff: 02!", 0},
	} {
		cpu, m := with(t, usual, c.cpu), memory(t, c.memory)
		for i := range 12 {
			cpu, _ = cycle(t, cpu, m, api.Lines{Irq: true})
			if cpu.Ctl != (c.at > 0 && i+1 >= c.at) {
				t.Errorf("%s: behind cycle %d Ctl is %v, want it behind %d", c.what, i+1, cpu.Ctl, c.at)
				break
			}
			if cpu.T == 0 {
				break
			}
		}
	}
}

// What told once has told for ever, erased apart.
func TestCtlStays(t *testing.T) {
	c := usual
	c.Ctl = true
	m := idle(t)
	c, _ = listen(t, c, m, 40, func(i int) api.Lines { return api.Lines{Reset: i == 9, Nmi: i == 20} })
	if !c.Ctl {
		t.Errorf("Ctl is not set any more: %+v", c)
	}
	if Erase(c).Ctl {
		t.Errorf("Ctl stays set where it is erased: %+v", Erase(c))
	}
}

// Where a target is told of a Data that is secret, and nothing else is.
func TestATargetOfASecret(t *testing.T) {
	c := usual
	c.Op, c.T, c.Data = 0xd0, 2, api.Byte{V: 5, S: true}
	want := c
	want.PC, want.PCS, want.Ctl, want.T = 0x205, true, true, 0
	if got, _ := Take(c, api.Byte{}, api.Lines{}); got != want {
		t.Errorf("in a page: %+v, want %+v", got, want)
	}
	c.Data.V = 0xf0
	want = c
	want.PC, want.PCS, want.Ctl, want.T, want.Addr, want.AddrS = 0x2f0, true, true, 3, 0x1f0, true
	if got, _ := Take(c, api.Byte{}, api.Lines{}); got != want {
		t.Errorf("over a page: %+v, want %+v", got, want)
	}
}
