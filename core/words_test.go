package core

import (
	"strings"

	"seepage/alu"
	"seepage/api"
	"seepage/opcode"
)

// tables is the chapter's tables: of each mode the cycles behind the first one, with "/" between. Ahead of ":" is what is asked for, behind it what is done then.
func tables() map[int]string {
	return map[int]string{
		api.ImpM:  "pc: alone",
		api.AccM:  "pc: acc",
		api.ImmM:  "pc: on done",
		api.RelM:  "pc: on data branch / pc: target / pc: leave",
		api.JmpM:  "pc: on data / pc: go",
		api.IndM:  "pc: on data / pc: on addr / addr: data nextinpage / addr: go",
		api.JsrM:  "pc: on data / stack: / high: less / low: less / pc: go",
		api.RtsM:  "pc: / stack: more / stack: data more / stack: go / pc: on",
		api.RtiM:  "pc: / stack: more / stack: flags more / stack: data more / stack: go",
		api.PushM: "pc: / one: less",
		api.PullM: "pc: / stack: more / stack: one",
		api.BrkM:  "pc: brk / high: less / low: less / flags: less / vector: data / vector+: go shut",
		api.JamM:  "end: jam",
		api.ZpM:   "pc: on first",
		api.ZpxM:  "pc: on first / addr: plusx",
		api.ZpyM:  "pc: on first / addr: plusy",
		api.AbsM:  "pc: on data / pc: on addr",
		api.AbxM:  "pc: on data / pc: on indexx / addr: cross",
		api.AbyM:  "pc: on data / pc: on indexy / addr: cross",
		api.IzxM:  "pc: on first / addr: plusx / addr: data nextinzero / addr: too addr",
		api.IzyM:  "pc: on first / addr: data nextinzero / addr: too indexy / addr: cross",
	}
}

// tableOf is an instruction's cycles behind the first one, the work too.
func tableOf(o api.Op) []string {
	l := strings.Split(tables()[o.Mode], "/")
	if o.Mode >= api.ZpM && o.Mode <= api.IzyM {
		l = append(l, strings.Split([]string{"", "addr: done", "store: stored", "addr: data / put: / change: changed"}[o.Use], "/")...)
	}
	return l
}

// byWords is a processor in a cycle, as the chapter's words have it: what it is told, and where that leads.
type byWords struct {
	api.Cpu
	o     api.Op
	v     api.Byte
	made  bool // is something secret of which the address is made, that isn't in the words behind "too"?
	ended bool
	stays bool
}

// told is what a processor asks for in a cycle, and what it is behind that.
func told(c api.Cpu, v api.Byte, l api.Lines) (api.Bus, api.Cpu) {
	m := byWords{Cpu: c, v: v, o: opcode.Decode(c.Op)}
	if m.T == 0 {
		asked := api.Bus{Addr: m.PC, Secret: m.PCS}
		m.first()
		m.Ctl = m.Ctl || asked.Secret
		m.lines(l)
		return asked, m.Cpu
	}
	table := tableOf(m.o)
	where, what, _ := strings.Cut(table[m.T-1], ":")
	asked := m.asks(strings.TrimSpace(where))
	m.ended = m.T == len(table)
	for _, word := range strings.Fields(what) {
		m.does(word)
	}
	m.Ctl = m.Ctl || asked.Secret
	m.last()
	m.lines(l)
	return asked, m.Cpu
}

func (m *byWords) first() {
	m.T = 1
	m.Addr, m.AddrS, m.Data, m.Cross = 0, false, api.Byte{}, false
	if m.Intr == 0 {
		m.Op, m.PC = m.v.V, m.PC+1
		m.Ctl = m.Ctl || m.v.S
	} else {
		m.Op = 0
	}
}

func (m *byWords) last() {
	if m.stays {
		return
	}
	if !m.ended {
		m.T++
		return
	}
	m.T = 0
	if m.o.Name == "BRK" {
		m.Intr = 0
		return
	}
	m.Intr = m.Pend
	if m.Pend == 2 {
		m.Got = false
	}
}

func (m *byWords) lines(l api.Lines) {
	m.Got = m.Got || (l.Nmi && !m.Nmi)
	m.Nmi = l.Nmi
	m.Pend = 0
	if l.Irq && m.F.P/4%2 == 0 {
		m.Pend = 1
	}
	if m.Got {
		m.Pend = 2
	}
	if m.F.S/4%2 == 1 {
		m.Ctl = true
	}
	if l.Reset {
		m.T, m.Intr, m.Jam = 0, 3, false
	}
}

// both is two bytes, and what is made of both.
func both(a, b api.Byte, f func(x, y int) int) api.Byte {
	return api.Byte{V: uint8(f(int(a.V), int(b.V)) & 255), S: a.S || b.S}
}

func and(a, b api.Byte) api.Byte { return both(a, b, func(x, y int) int { return x & y }) }

func or(a, b api.Byte) api.Byte { return both(a, b, func(x, y int) int { return x | y }) }

func xor(a, b api.Byte) api.Byte { return both(a, b, func(x, y int) int { return x ^ y }) }

func plus(a api.Byte, n int) api.Byte {
	return both(a, api.Byte{}, func(x, _ int) int { return x + n + 256 })
}

// asks is what is asked for.
func (m *byWords) asks(where string) api.Bus {
	stack := api.Bus{Addr: 256 + uint16(m.S.V), Secret: m.S.S}
	push := func(v api.Byte) api.Bus {
		if m.o.Name == "BRK" && m.Intr == 3 {
			return stack
		}
		return api.Bus{Addr: stack.Addr, Secret: stack.Secret, Write: true, V: v}
	}
	vector := []uint16{65534, 65534, 65530, 65532}[m.Intr]
	switch where {
	case "pc":
		return api.Bus{Addr: m.PC, Secret: m.PCS}
	case "addr":
		return api.Bus{Addr: m.Addr, Secret: m.AddrS}
	case "stack":
		return stack
	case "high":
		return push(api.Byte{V: uint8(m.PC / 256), S: m.PCS})
	case "low":
		return push(api.Byte{V: uint8(m.PC % 256), S: m.PCS})
	case "flags":
		return push(alu.Push(m.F, m.Intr == 0))
	case "one":
		if m.o.Name == "PHA" {
			return push(m.A)
		}
		return push(alu.Push(m.F, true))
	case "vector":
		return api.Bus{Addr: vector}
	case "vector+":
		return api.Bus{Addr: vector + 1}
	case "end":
		return api.Bus{Addr: 65535}
	}
	return m.writes(where)
}

// writes is what is written to Addr.
func (m *byWords) writes(where string) api.Bus {
	bus := api.Bus{Addr: m.Addr, Secret: m.AddrS, Write: true}
	switch where {
	case "put":
		bus.V = m.Data
	case "change":
		copied := *m
		bus.V = copied.comes(m.Data)
	case "store":
		bus.V = map[string]api.Byte{"STA": m.A, "STX": m.X, "STY": m.Y, "SAX": and(m.A, m.X), "SHX": m.X, "SHY": m.Y, "SHA": and(m.A, m.X), "TAS": and(m.A, m.X)}[m.o.Name]
		if strings.Contains("SHX SHY SHA TAS", m.o.Name) {
			ahead := int(m.Addr / 256)
			if m.Cross {
				ahead--
			}
			bus.V = and(bus.V, plus(api.Byte{V: uint8(ahead), S: m.AddrS}, 1))
			if m.Cross {
				bus.Addr = uint16(bus.V.V)*256 + m.Addr%256
				bus.Secret = m.AddrS || bus.V.S
			}
		}
	default:
		panic("no such word: " + where)
	}
	return bus
}

// word is two bytes as an address.
func word(lo, hi api.Byte) (uint16, bool) { return uint16(lo.V) + 256*uint16(hi.V), lo.S || hi.S }

// does is what is done behind that.
func (m *byWords) does(what string) {
	switch what {
	case "on":
		m.PC++
	case "data":
		m.Data = m.v
	case "go":
		m.PC, m.PCS = word(m.Data, m.v)
	case "less":
		m.S.V--
	case "more":
		m.S.V++
	case "flags":
		m.F = alu.Pull(m.v)
	case "one":
		if m.o.Name == "PLA" {
			m.A = m.v
			m.F = alu.NZ(m.F, m.A)
		} else {
			m.F = alu.Pull(m.v)
		}
	case "brk":
		if m.Intr == 0 {
			m.PC++
		}
	case "shut":
		m.F.P, m.F.S = m.F.P|4, m.F.S&^4
	case "jam":
		m.Jam, m.stays = true, true
	case "done":
		m.done(m.v)
	case "alone":
		m.alone()
	case "acc":
		m.A = m.comes(m.A)
	case "changed":
		m.comes(m.Data)
	case "stored":
		if m.o.Name == "TAS" {
			m.S = and(m.A, m.X)
		}
	default:
		m.finds(what)
	}
}

// finds is what is done where an address is found.
func (m *byWords) finds(what string) {
	index := func(by api.Byte) {
		sum := int(m.Data.V) + int(by.V)
		m.Addr = uint16(m.v.V)*256 + uint16(sum%256)
		m.AddrS = m.Data.S || by.S || m.v.S || m.made
		m.Cross = sum >= 256
	}
	switch what {
	case "too":
		m.made = m.AddrS
	case "first":
		m.Addr, m.AddrS = uint16(m.v.V), m.v.S
	case "addr":
		m.Addr, m.AddrS = word(m.Data, m.v)
		m.AddrS = m.AddrS || m.made
	case "nextinpage":
		m.Addr = m.Addr/256*256 + (m.Addr+1)%256
	case "nextinzero":
		m.Addr = (m.Addr + 1) % 256
	case "plusx":
		m.Addr, m.AddrS = (m.Addr+uint16(m.X.V))%256, m.AddrS || m.X.S
	case "plusy":
		m.Addr, m.AddrS = (m.Addr+uint16(m.Y.V))%256, m.AddrS || m.Y.S
	case "indexx":
		index(m.X)
	case "indexy":
		index(m.Y)
	case "cross":
		if !m.Cross && m.o.Use == api.ReadU {
			m.done(m.v)
			m.ended = true
		}
		if m.Cross {
			m.Addr += 256
		}
	default:
		m.branches(what)
	}
}

// branches is what is done of a branch.
func (m *byWords) branches(what string) {
	switch what {
	case "branch":
		flag := map[string]uint8{"BPL": 128, "BMI": 128, "BVC": 64, "BVS": 64, "BCC": 1, "BCS": 1, "BNE": 2, "BEQ": 2}[m.o.Name]
		if set := strings.Contains("BMI BVS BCS BEQ", m.o.Name); set == (m.F.P&flag > 0) {
			m.PCS = m.PCS || m.v.S
		} else {
			m.ended = true
		}
		m.Ctl = m.Ctl || m.F.S&flag > 0
	case "target":
		far := int(m.Data.V)
		if far > 127 {
			far -= 256
		}
		target := uint16(int(m.PC) + far)
		m.PCS = m.PCS || m.Data.S
		m.Ctl = m.Ctl || m.Data.S
		if target/256 == m.PC/256 {
			m.PC, m.ended = target, true
		} else {
			m.Addr, m.AddrS = target, m.PCS
			m.PC = m.PC/256*256 + target%256
		}
	case "leave":
		m.PC, m.PCS = m.Addr, m.AddrS || m.PCS
	default:
		panic("no such word: " + what)
	}
}

// becomes is what a register is loaded with, and NZ of it.
func (m *byWords) becomes(v api.Byte, registers ...*api.Byte) {
	for _, r := range registers {
		*r = v
	}
	m.F = alu.NZ(m.F, v)
}

// done is what is done with v.
func (m *byWords) done(v api.Byte) {
	firm := or(m.A, api.Byte{V: 238})
	switch m.o.Name {
	case "ORA":
		m.becomes(or(m.A, v), &m.A)
	case "AND":
		m.becomes(and(m.A, v), &m.A)
	case "EOR":
		m.becomes(xor(m.A, v), &m.A)
	case "ADC":
		m.A, m.F = alu.Adc(m.F, m.A, v)
	case "SBC":
		m.A, m.F = alu.Sbc(m.F, m.A, v)
	case "CMP":
		m.F = alu.Cmp(m.F, m.A, v)
	case "CPX":
		m.F = alu.Cmp(m.F, m.X, v)
	case "CPY":
		m.F = alu.Cmp(m.F, m.Y, v)
	case "BIT":
		m.F = alu.Bit(m.F, m.A, v)
	case "LDA":
		m.becomes(v, &m.A)
	case "LDX":
		m.becomes(v, &m.X)
	case "LDY":
		m.becomes(v, &m.Y)
	case "LAX":
		m.becomes(v, &m.A, &m.X)
	case "LAS":
		m.becomes(and(v, m.S), &m.A, &m.X, &m.S)
	case "ANC":
		m.becomes(and(m.A, v), &m.A)
		m.F = alu.Set(m.F, api.CF, api.Byte{V: m.A.V / 128, S: m.A.S})
	case "ALR":
		m.A, m.F = alu.Lsr(m.F, and(m.A, v))
	case "ARR":
		m.A, m.F = alu.Arr(m.F, m.A, v)
	case "SBX":
		m.X, m.F = alu.Sbx(m.F, and(m.A, m.X), v)
	case "ANE":
		m.becomes(and(and(firm, m.X), v), &m.A)
	case "LXA":
		m.becomes(and(firm, v), &m.A, &m.X)
	case "NOP":
	default:
		panic("no such name: " + m.o.Name)
	}
}

// alone is what is done without anything.
func (m *byWords) alone() {
	switch m.o.Name {
	case "TAX":
		m.becomes(m.A, &m.X)
	case "TAY":
		m.becomes(m.A, &m.Y)
	case "TXA":
		m.becomes(m.X, &m.A)
	case "TYA":
		m.becomes(m.Y, &m.A)
	case "TSX":
		m.becomes(m.S, &m.X)
	case "TXS":
		m.S = m.X
	case "INX":
		m.becomes(plus(m.X, 1), &m.X)
	case "INY":
		m.becomes(plus(m.Y, 1), &m.Y)
	case "DEX":
		m.becomes(plus(m.X, -1), &m.X)
	case "DEY":
		m.becomes(plus(m.Y, -1), &m.Y)
	case "CLC", "CLI", "CLD", "CLV", "SEC", "SEI", "SED":
		bit := map[byte]uint8{'C': 1, 'I': 4, 'D': 8, 'V': 64}[m.o.Name[2]]
		m.F.P, m.F.S = m.F.P&^bit, m.F.S&^bit
		if m.o.Name[0] == 'S' {
			m.F.P |= bit
		}
	case "NOP":
	default:
		panic("no such name: " + m.o.Name)
	}
}

// comes is what comes of a byte.
func (m *byWords) comes(b api.Byte) api.Byte {
	switch m.o.Name {
	case "ASL", "SLO":
		b, m.F = alu.Asl(m.F, b)
	case "LSR", "SRE":
		b, m.F = alu.Lsr(m.F, b)
	case "ROL", "RLA":
		b, m.F = alu.Rol(m.F, b)
	case "ROR", "RRA":
		b, m.F = alu.Ror(m.F, b)
	case "INC", "ISC":
		m.becomes(plus(b, 1), &b)
	case "DEC", "DCP":
		m.becomes(plus(b, -1), &b)
	default:
		panic("no such name: " + m.o.Name)
	}
	switch m.o.Name {
	case "SLO":
		m.becomes(or(m.A, b), &m.A)
	case "RLA":
		m.becomes(and(m.A, b), &m.A)
	case "SRE":
		m.becomes(xor(m.A, b), &m.A)
	case "RRA":
		m.A, m.F = alu.Adc(m.F, m.A, b)
	case "DCP":
		m.F = alu.Cmp(m.F, m.A, b)
	case "ISC":
		m.A, m.F = alu.Sbc(m.F, m.A, b)
	}
	return b
}
