package opcode

import (
	"math"
	"slices"
	"strings"
	"testing"

	"seepage/api"
)

// P9.1

func TestDecodeOfAllNamesAndModes(t *testing.T) {
	for op, want := range allEntered(t) {
		if o := Decode(uint8(op)); o.Name != want.name || o.Mode != want.mode {
			t.Errorf("Decode(%#x) is %q of mode %d, want %q of mode %d", op, o.Name, o.Mode, want.name, want.mode)
		}
	}
}

func TestDecodeOfAllUses(t *testing.T) {
	for op := range 256 {
		want := strings.IndexByte("-rwb", gridAt(useGrid, op))
		if o := Decode(uint8(op)); o.Use != want {
			t.Errorf("Decode(%#x) has the use %d, want %d: %v", op, o.Use, want, o)
		}
	}
}

func TestDecodeOfAllCycles(t *testing.T) {
	for op := range 256 {
		want := int(gridAt(cycleGrid, op) - '0')
		if o := Decode(uint8(op)); o.Cycles != want {
			t.Errorf("Decode(%#x) takes %d cycles, want %d: %v", op, o.Cycles, want, o)
		}
	}
}

func TestDecodeOfAllThatCross(t *testing.T) {
	for op := range 256 {
		want := gridAt(crossGrid, op) == 'x'
		if o := Decode(uint8(op)); o.Cross != want {
			t.Errorf("Decode(%#x) crosses: %v, want %v: %v", op, o.Cross, want, o)
		}
	}
}

func TestDecodeOfAllOfficialOnes(t *testing.T) {
	for op := range 256 {
		want := gridAt(goodGrid, op) == 'o'
		if o := Decode(uint8(op)); o.Good != want {
			t.Errorf("Decode(%#x) is official: %v, want %v: %v", op, o.Good, want, o)
		}
	}
}

func TestDecodeByName(t *testing.T) {
	for _, c := range []struct {
		op   uint8
		want api.Op
	}{
		{0x00, api.Op{Name: "BRK", Mode: api.BrkM, Cycles: 7, Good: true}},
		{0x0a, api.Op{Name: "ASL", Mode: api.AccM, Cycles: 2, Good: true}},
		{0x1e, api.Op{Name: "ASL", Mode: api.AbxM, Use: api.BothU, Cycles: 7, Good: true}},
		{0x20, api.Op{Name: "JSR", Mode: api.JsrM, Cycles: 6, Good: true}},
		{0x40, api.Op{Name: "RTI", Mode: api.RtiM, Cycles: 6, Good: true}},
		{0x4c, api.Op{Name: "JMP", Mode: api.JmpM, Cycles: 3, Good: true}},
		{0x60, api.Op{Name: "RTS", Mode: api.RtsM, Cycles: 6, Good: true}},
		{0x68, api.Op{Name: "PLA", Mode: api.PullM, Cycles: 4, Good: true}},
		{0x6c, api.Op{Name: "JMP", Mode: api.IndM, Cycles: 5, Good: true}},
		{0x7f, api.Op{Name: "RRA", Mode: api.AbxM, Use: api.BothU, Cycles: 7}},
		{0x80, api.Op{Name: "NOP", Mode: api.ImmM, Use: api.ReadU, Cycles: 2}},
		{0x91, api.Op{Name: "STA", Mode: api.IzyM, Use: api.WriteU, Cycles: 6, Good: true}},
		{0x97, api.Op{Name: "SAX", Mode: api.ZpyM, Use: api.WriteU, Cycles: 4}},
		{0xa9, api.Op{Name: "LDA", Mode: api.ImmM, Use: api.ReadU, Cycles: 2, Good: true}},
		{0xb3, api.Op{Name: "LAX", Mode: api.IzyM, Use: api.ReadU, Cycles: 5, Cross: true}},
		{0xd0, api.Op{Name: "BNE", Mode: api.RelM, Cycles: 2, Cross: true, Good: true}},
		{0xea, api.Op{Name: "NOP", Mode: api.ImpM, Cycles: 2, Good: true}},
		{0xf2, api.Op{Name: "JAM", Mode: api.JamM}},
		{0xff, api.Op{Name: "ISC", Mode: api.AbxM, Use: api.BothU, Cycles: 7}},
	} {
		if got := Decode(c.op); got != c.want {
			t.Errorf("Decode(%#x) = %v, want %v", c.op, got, c.want)
		}
	}
}

// P9.2

// opsOf is the opcodes of a name, and of a mode if it is none below 0, rising.
func opsOf(all []entered, name string, mode int) []uint8 {
	var l []uint8
	for _, e := range all {
		if e.name == name && (mode < 0 || e.mode == mode) {
			l = append(l, e.op)
		}
	}
	return l
}

func TestAllOfEachName(t *testing.T) {
	all := allEntered(t)
	sum := 0
	for _, name := range names() {
		want := opsOf(all, name, -1)
		if got := All(name); !slices.Equal(got, want) {
			t.Errorf("All(%q) = %x, want %x", name, got, want)
		}
		sum += len(want)
	}
	if sum != 256 {
		t.Errorf("%d opcodes have a name, want 256", sum)
	}
}

func TestAllByName(t *testing.T) {
	for name, want := range map[string]string{
		"BIT": "\x24\x2c",
		"BRK": "\x00",
		"ISC": "\xe3\xe7\xef\xf3\xf7\xfb\xff",
		"JMP": "\x4c\x6c",
		"SBC": "\xe1\xe5\xe9\xeb\xed\xf1\xf5\xf9\xfd",
		"TAS": "\x9b",
	} {
		if got := All(name); string(got) != want {
			t.Errorf("All(%q) = %x, want %x", name, got, want)
		}
	}
}

// noNames is texts that are no names, pieces of the table among them.
func noNames() []string {
	l := []string{"", " ", "   ", "\x00", "brk", "Brk", "BR", "BRKK", "BRK ", " BRK", "ORA izx", "ORA\x00", "OR\xff", "ÖRA", "imp", "STP", "HLT", "ISB", "XAA", strings.Repeat("NOP", 100000)}
	known := names()
	for at := range table {
		for long := 1; long <= 9 && at+long <= len(table); long++ {
			if piece := table[at : at+long]; !slices.Contains(known, piece) && !slices.Contains(l, piece) {
				l = append(l, piece)
			}
		}
	}
	return l
}

func TestAllOfNoName(t *testing.T) {
	for _, name := range noNames() {
		if got := All(name); len(got) != 0 {
			t.Errorf("All(%.20q) = %x, want none", name, got)
		}
	}
}

// threeLetters calls f with all names of three great letters.
func threeLetters(f func(name string)) {
	for i := range 26 * 26 * 26 {
		f(string([]byte{'A' + byte(i/676), 'A' + byte(i/26%26), 'A' + byte(i%26)}))
	}
}

func TestAllOfThreeLetters(t *testing.T) {
	known := names()
	threeLetters(func(name string) {
		if got := All(name); (len(got) > 0) != slices.Contains(known, name) {
			t.Errorf("All(%q) = %x", name, got)
		}
	})
}

// What a caller does to an answer changes no later one.
func TestAllAnswersAnew(t *testing.T) {
	first := All("JAM")
	want := slices.Clone(first)
	for i := range first {
		first[i] = 0xa9
	}
	if got := All("JAM"); !slices.Equal(got, want) {
		t.Errorf("All of JAM = %x, then %x", want, got)
	}
	if o := Decode(2); o.Name != "JAM" {
		t.Errorf("Decode(2) = %v", o)
	}
}

// someModes is all modes, and numbers around them that are none.
func someModes() []int {
	l := []int{math.MinInt, math.MinInt32, -256, math.MaxInt32, math.MaxInt, 256, 1 << 32, 1<<32 + 2}
	for mode := -25; mode <= 45; mode++ {
		l = append(l, mode)
	}
	return l
}

// found is what Find tells by the words.
func found(all []entered, name string, mode int) (uint8, api.Errno) {
	if mode < 0 {
		return 0, api.ErrNone
	}
	ops := opsOf(all, name, mode)
	for _, op := range ops {
		if gridAt(goodGrid, int(op)) == 'o' {
			return op, api.OK
		}
	}
	if len(ops) == 0 {
		return 0, api.ErrNone
	}
	return ops[0], api.OK
}

func TestFindOfEachNameAndMode(t *testing.T) {
	all := allEntered(t)
	for _, name := range names() {
		for _, mode := range someModes() {
			want, wantE := found(all, name, mode)
			if op, e := Find(name, mode); op != want || e != wantE {
				t.Errorf("Find(%q, %d) = %x, %d, want %x, %d", name, mode, op, e, want, wantE)
			}
		}
	}
}

func TestFindByName(t *testing.T) {
	for _, c := range []struct {
		name string
		mode int
		op   uint8
		e    api.Errno
	}{
		{"BRK", api.BrkM, 0x00, api.OK},
		{"BRK", api.ImpM, 0, api.ErrNone},
		{"NOP", api.ImpM, 0xea, api.OK}, // others stand ahead of it
		{"NOP", api.ImmM, 0x80, api.OK}, // none is official
		{"NOP", api.ZpxM, 0x14, api.OK},
		{"NOP", api.AccM, 0, api.ErrNone},
		{"SBC", api.ImmM, 0xe9, api.OK}, // another one stands behind it
		{"ANC", api.ImmM, 0x0b, api.OK},
		{"JAM", api.JamM, 0x02, api.OK},
		{"JMP", api.JmpM, 0x4c, api.OK},
		{"JMP", api.IndM, 0x6c, api.OK},
		{"JMP", api.AbsM, 0, api.ErrNone},
		{"STA", api.ImmM, 0, api.ErrNone},
		{"LDX", api.ZpxM, 0, api.ErrNone},
		{"LDX", api.ZpyM, 0xb6, api.OK},
		{"LDA", -1, 0, api.ErrNone},
		{"LDA", 21, 0, api.ErrNone},
		{"lda", api.ImmM, 0, api.ErrNone},
		{"", api.ImpM, 0, api.ErrNone},
	} {
		if op, e := Find(c.name, c.mode); op != c.op || e != c.e {
			t.Errorf("Find(%q, %d) = %x, %d, want %x, %d", c.name, c.mode, op, e, c.op, c.e)
		}
	}
}

func TestFindOfNoName(t *testing.T) {
	for _, name := range noNames() {
		for mode := -1; mode <= 21; mode++ {
			if op, e := Find(name, mode); op != 0 || e != api.ErrNone {
				t.Fatalf("Find(%.20q, %d) = %x, %d, want none", name, mode, op, e)
			}
		}
	}
}

// P9.3

// octets is how long an instruction is by the words.
func octets(mode int) int {
	if mode < 0 || mode >= len(modeNumbers()) {
		return 0
	}
	switch name := modeNumbers()[mode]; {
	case slices.Contains(strings.Fields("imp acc brk rts rti push pull jam"), name):
		return 1
	case slices.Contains(strings.Fields("abs abx aby ind jmp jsr"), name):
		return 3
	}
	return 2
}

// What else an instruction is has no part in how long it is.
func TestLongOfEachMode(t *testing.T) {
	for _, mode := range someModes() {
		want := octets(mode)
		for _, o := range []api.Op{
			{Mode: mode},
			{Mode: mode, Name: "JMP", Use: api.BothU, Cycles: 7, Cross: true, Good: true},
			{Mode: mode, Name: "BRK", Use: math.MinInt, Cycles: math.MaxInt},
			{Mode: mode, Name: "none", Use: math.MaxInt, Cycles: math.MinInt},
		} {
			if got := Long(o); got != want {
				t.Errorf("Long(%v) = %d, want %d", o, got, want)
			}
		}
	}
}

func TestLongByOpcode(t *testing.T) {
	for op, want := range map[uint8]int{
		0x00: 1, 0x08: 1, 0x0a: 1, 0x02: 1, 0x1a: 1, 0x28: 1, 0x40: 1, 0x60: 1, 0xea: 1,
		0x10: 2, 0x05: 2, 0x15: 2, 0x96: 2, 0x01: 2, 0x11: 2, 0x80: 2, 0xa9: 2,
		0x20: 3, 0x4c: 3, 0x6c: 3, 0x0d: 3, 0x1d: 3, 0x19: 3, 0x9c: 3,
	} {
		if got := Long(Decode(op)); got != want {
			t.Errorf("Long of %#x = %d, want %d", op, got, want)
		}
	}
}

// P9.4

func TestHowManyAreOfficialAndHowManyJam(t *testing.T) {
	official, jams := 0, 0
	for op := range 256 {
		o := Decode(uint8(op))
		if o.Good {
			official++
		}
		if o.Name == "JAM" && o.Mode == api.JamM {
			jams++
		}
	}
	if official != 151 {
		t.Errorf("%d are official, want 151", official)
	}
	if jams != 12 || len(All("JAM")) != 12 {
		t.Errorf("%d are JAM, and All tells %d, want 12", jams, len(All("JAM")))
	}
}
