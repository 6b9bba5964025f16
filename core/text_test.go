package core

import (
	"strconv"
	"strings"
	"testing"

	"seepage/api"
)

// Processors, memory, and what is asked for, as short texts: "a=12! x=.. y=.. s=.. pc=1234! f=Cz!n i=1 p=2" is a processor, a byte secret where "!" stands behind it; a flag's great letter says that it is set.

// hex is a number to the base sixteen, and whether it is secret.
func hex(t *testing.T, s string) (uint16, bool) {
	t.Helper()
	digits, secret := strings.CutSuffix(s, "!")
	n, err := strconv.ParseUint(digits, 16, 16)
	if err != nil {
		t.Fatalf("%q is no number", s)
	}
	return uint16(n), secret
}

// octet is likewise a byte.
func octet(t *testing.T, s string) api.Byte {
	t.Helper()
	n, secret := hex(t, s)
	return api.Byte{V: uint8(n), S: secret}
}

// flags is flags by their letters.
func flags(t *testing.T, s string) api.Flags {
	t.Helper()
	var f api.Flags
	var bit uint8
	for _, r := range s {
		if r == '!' {
			f.S |= bit
			continue
		}
		i := strings.IndexRune("czid  vn", r|0x20)
		if i < 0 || r == ' ' {
			t.Fatalf("%q is no flags", s)
		}
		bit = 1 << i
		if r < 'a' {
			f.P |= bit
		}
	}
	return f
}

// with is a processor, changed as a text says.
func with(t *testing.T, c api.Cpu, s string) api.Cpu {
	t.Helper()
	for _, part := range strings.Fields(s) {
		name, value, _ := strings.Cut(part, "=")
		switch name {
		case "a":
			c.A = octet(t, value)
		case "x":
			c.X = octet(t, value)
		case "y":
			c.Y = octet(t, value)
		case "s":
			c.S = octet(t, value)
		case "pc":
			c.PC, c.PCS = hex(t, value)
		case "f":
			c.F = flags(t, value)
		case "i":
			c.Intr, _ = strconv.Atoi(value)
		case "p":
			c.Pend, _ = strconv.Atoi(value)
		default:
			t.Fatalf("%q is no part of a processor", part)
		}
	}
	return c
}

// memory is cells by a text such as "0200: a9 05! / fffc: 34 12"; all others are low zeros.
func memory(t *testing.T, s string) map[uint16]api.Byte {
	t.Helper()
	m := map[uint16]api.Byte{}
	for _, line := range strings.Split(s, "/") {
		from, cells, _ := strings.Cut(line, ":")
		at, _ := hex(t, strings.TrimSpace(from))
		for _, cell := range strings.Fields(cells) {
			m[at] = octet(t, cell)
			at++
		}
	}
	return m
}

// fourDigits is a number to the base sixteen.
func fourDigits(n uint16) string {
	s := strconv.FormatUint(uint64(n), 16)
	return strings.Repeat("0", 4-len(s)) + s
}

// mark is "!" of what is secret.
func mark(s bool) string {
	if s {
		return "!"
	}
	return ""
}

// written is what was asked for, as a text: "r1234" or "w1234=05!", "!" behind an address that is secret.
func written(b api.Bus) string {
	addr := fourDigits(b.Addr) + mark(b.Secret)
	if !b.Write {
		return "r" + addr
	}
	return "w" + addr + "=" + fourDigits(uint16(b.V.V))[2:] + mark(b.V.S)
}

// cycle plays one cycle over memory.
func cycle(t *testing.T, c api.Cpu, m map[uint16]api.Byte, l api.Lines) (api.Cpu, api.Bus) {
	t.Helper()
	b := Ask(c)
	if b.Write {
		m[b.Addr] = b.V
	} else if b.V != (api.Byte{}) {
		t.Fatalf("%+v asks to read, and for %v", c, b.V)
	}
	next, e := Take(c, m[b.Addr], l)
	if e != api.OK {
		t.Fatalf("Take of %+v: %d", c, e)
	}
	return next, b
}

// play plays cycles until an instruction is over, or more than ten, and tells what was asked for.
func play(t *testing.T, c api.Cpu, m map[uint16]api.Byte) (api.Cpu, string) {
	t.Helper()
	var asked []string
	for range 11 {
		next, b := cycle(t, c, m, api.Lines{})
		asked = append(asked, written(b))
		c = next
		if c.T == 0 {
			break
		}
	}
	return c, strings.Join(asked, " ")
}
