package alu

import (
	"testing"

	"seepage/api"
)

// reckoning is a call of flags and of up to two bytes: that of one byte plays with the first, that without a value tells none.
type reckoning func(f api.Flags, a, m api.Byte) (api.Byte, api.Flags)

// ofOne is a call of one byte.
func ofOne(call func(f api.Flags, b api.Byte) (api.Byte, api.Flags)) reckoning {
	return func(f api.Flags, a, m api.Byte) (api.Byte, api.Flags) { return call(f, a) }
}

// flagsAlone is a call that tells flags alone.
func flagsAlone(call func(f api.Flags, a, m api.Byte) api.Flags) reckoning {
	return func(f api.Flags, a, m api.Byte) (api.Byte, api.Flags) { return api.Byte{}, call(f, a, m) }
}

// bitOf is a number's bit.
func bitOf(v, i int) int {
	for range i {
		v /= 2
	}
	return v % 2
}

// together is the bits that two numbers have both.
func together(a, m int) int {
	v, worth := 0, 1
	for i := range 8 {
		v += worth * bitOf(a, i) * bitOf(m, i)
		worth *= 2
	}
	return v
}

// carryOf is the carry, and whether it is secret.
func carryOf(f api.Flags) (int, bool) { return bitOf(int(f.P), 0), bitOf(int(f.S), 0) == 1 }

// made is a number as a byte, made of some of which one is secret, or none.
func made(v int, s bool) api.Byte { return api.Byte{V: uint8(v), S: s} }

// The reckonings by the words.

func wantAdc(f api.Flags, a, m api.Byte) (api.Byte, api.Flags) {
	c, cs := carryOf(f)
	s := a.S || m.S || cs
	wide := int(a.V) + int(m.V) + c
	v := wide % 256
	over := a.V/128 == m.V/128 && v/128 != int(a.V/128)
	return made(v, s), flagged(f, ofResult(v, s, flag{api.CF, wide > 255, s}, flag{api.VF, over, s})...)
}

func wantSbc(f api.Flags, a, m api.Byte) (api.Byte, api.Flags) {
	return wantAdc(f, a, made(255-int(m.V), m.S))
}

func wantCmp(f api.Flags, a, m api.Byte) (api.Byte, api.Flags) {
	_, g := wantSbx(f, a, m)
	return api.Byte{}, g
}

func wantSbx(f api.Flags, a, m api.Byte) (api.Byte, api.Flags) {
	s := a.S || m.S
	v := (int(a.V) + 256 - int(m.V)) % 256
	return made(v, s), flagged(f, ofResult(v, s, flag{api.CF, a.V >= m.V, s})...)
}

func wantBit(f api.Flags, a, m api.Byte) (api.Byte, api.Flags) {
	v := int(m.V)
	return api.Byte{}, flagged(f,
		flag{api.ZF, together(int(a.V), v) == 0, a.S || m.S},
		flag{api.NF, bitOf(v, 7) == 1, m.S},
		flag{api.VF, bitOf(v, 6) == 1, m.S})
}

func wantAsl(f api.Flags, a, _ api.Byte) (api.Byte, api.Flags) {
	v := int(a.V) * 2 % 256
	return made(v, a.S), flagged(f, ofResult(v, a.S, flag{api.CF, a.V >= 128, a.S})...)
}

func wantLsr(f api.Flags, a, _ api.Byte) (api.Byte, api.Flags) {
	v := int(a.V) / 2
	return made(v, a.S), flagged(f, ofResult(v, a.S, flag{api.CF, a.V%2 == 1, a.S})...)
}

func wantRol(f api.Flags, a, _ api.Byte) (api.Byte, api.Flags) {
	c, cs := carryOf(f)
	v := int(a.V)*2%256 + c
	return made(v, a.S || cs), flagged(f, ofResult(v, a.S || cs, flag{api.CF, a.V >= 128, a.S})...)
}

func wantRor(f api.Flags, a, _ api.Byte) (api.Byte, api.Flags) {
	c, cs := carryOf(f)
	v := int(a.V)/2 + 128*c
	return made(v, a.S || cs), flagged(f, ofResult(v, a.S || cs, flag{api.CF, a.V%2 == 1, a.S})...)
}

func wantArr(f api.Flags, a, m api.Byte) (api.Byte, api.Flags) {
	c, cs := carryOf(f)
	s := a.S || m.S || cs
	v := together(int(a.V), int(m.V))/2 + 128*c
	upper, lower := bitOf(v, 6) == 1, bitOf(v, 5) == 1
	return made(v, s), flagged(f, ofResult(v, s, flag{api.CF, upper, s}, flag{api.VF, upper != lower, s})...)
}

// reckonings is all calls of flags and of up to two bytes, each by its name, as it is and by the words.
func reckonings() []struct {
	name      string
	run, want reckoning
} {
	return []struct {
		name      string
		run, want reckoning
	}{
		{"Adc", Adc, wantAdc},
		{"Sbc", Sbc, wantSbc},
		{"Cmp", flagsAlone(Cmp), wantCmp},
		{"Bit", flagsAlone(Bit), wantBit},
		{"Asl", ofOne(Asl), wantAsl},
		{"Lsr", ofOne(Lsr), wantLsr},
		{"Rol", ofOne(Rol), wantRol},
		{"Ror", ofOne(Ror), wantRor},
		{"Arr", Arr, wantArr},
		{"Sbx", Sbx, wantSbx},
	}
}

// held calls f with two calls that are to tell the same, by their name.
func held(t *testing.T, f func(hold func(f api.Flags, a, m api.Byte))) {
	for _, r := range reckonings() {
		t.Run(r.name, func(t *testing.T) {
			f(func(f api.Flags, a, m api.Byte) {
				b, g := r.run(f, a, m)
				if wantB, wantG := r.want(f, a, m); b != wantB || g != wantG {
					t.Fatalf("%s of %v, %v, %v = %v, %v, want %v, %v", r.name, f, a, m, b, g, wantB, wantG)
				}
			})
		})
	}
}

// P8.2, P8.3, P8.4

// All values of both bytes and of the carry, with all labels of the three; the flags beside go all over the place.
func TestReckoningsOfAllBytes(t *testing.T) {
	held(t, func(hold func(f api.Flags, a, m api.Byte)) {
		var c chance
		for n := range 256 * 256 {
			for labels := range 8 {
				f := c.flags()
				a, m := made(n/256, labels&1 > 0), made(n%256, labels&2 > 0)
				f.S = f.S&^1 | uint8(labels>>2)
				f.P &^= 1
				hold(f, a, m)
				f.P |= 1
				hold(f, a, m)
			}
		}
	})
}

// All flags, with bytes at which flags change.
func TestReckoningsInAllFlags(t *testing.T) {
	held(t, func(hold func(f api.Flags, a, m api.Byte)) {
		l := edgeBytes()
		n := 0
		everyFlags(func(f api.Flags) {
			for range 4 { // two places that meet in all ways as n grows
				hold(f, l[n%len(l)], l[n/len(l)%len(l)])
				n++
			}
		})
	})
	held(t, func(hold func(f api.Flags, a, m api.Byte)) {
		for _, f := range someFlags() {
			for _, a := range edgeBytes() {
				for _, m := range edgeBytes() {
					hold(f, a, m)
				}
			}
		}
	})
}

// example is what is told of flags and bytes by its name.
type example struct {
	name  string
	run   reckoning
	f     api.Flags
	a, m  api.Byte
	b     api.Byte
	wantF api.Flags
}

// holdExamples fails where a call doesn't tell its example.
func holdExamples(t *testing.T, l []example) {
	t.Helper()
	for _, c := range l {
		if b, f := c.run(c.f, c.a, c.m); b != c.b || f != c.wantF {
			t.Errorf("%s: of %v, %v, %v: %v, %v, want %v, %v", c.name, c.f, c.a, c.m, b, f, c.b, c.wantF)
		}
	}
}

// low and secret are bytes.
func low(v uint8) api.Byte    { return api.Byte{V: v} }
func secret(v uint8) api.Byte { return api.Byte{V: v, S: true} }

// set is low flags.
func set(p uint8) api.Flags { return api.Flags{P: p} }

// P8.2

func TestSumsByName(t *testing.T) {
	holdExamples(t, []example{
		{"the chapter's sum", Adc, set(0), low(127), low(1), low(128), set(api.VF | api.NF)},
		{"the carry is added", Adc, set(api.CF), low(127), low(0), low(128), set(api.VF | api.NF)},
		{"above 255", Adc, set(0), low(255), low(1), low(0), set(api.CF | api.ZF)},
		{"all of it", Adc, set(api.CF), low(255), low(255), low(255), set(api.CF | api.NF)},
		{"both below 0", Adc, set(0), low(128), low(128), low(0), set(api.CF | api.ZF | api.VF)},
		{"one below 0", Adc, set(api.VF), low(128), low(127), low(255), set(api.NF)},
		{"decimal plays no part", Adc, set(api.DF), low(9), low(1), low(10), set(api.DF)},
		{"no flag is asked but the carry", Adc, set(0xfe), low(1), low(1), low(2), set(api.IF | api.DF)},
		{"a secret carry", Adc, api.Flags{S: api.CF}, low(1), low(1), secret(2), api.Flags{S: api.CF | api.ZF | api.VF | api.NF}},
		{"secret flags ahead play no part", Adc, api.Flags{S: api.ZF | api.VF | api.NF | api.IF}, low(1), low(1), low(2), api.Flags{S: api.IF}},
		{"less", Sbc, set(api.CF), low(6), low(5), low(1), set(api.CF)},
		{"less, and one", Sbc, set(0), low(6), low(5), low(0), set(api.CF | api.ZF)},
		{"below 0", Sbc, set(api.CF), low(5), low(6), low(255), set(api.NF)},
		{"decimal plays no part in what is taken away", Sbc, set(api.DF | api.CF), low(16), low(1), low(15), set(api.DF | api.CF)},
		{"a secret is taken away", Sbc, set(api.CF), low(5), secret(5), secret(0), api.Flags{P: api.CF | api.ZF, S: api.CF | api.ZF | api.VF | api.NF}},
	})
}

func TestLooksByName(t *testing.T) {
	cmp, bit := flagsAlone(Cmp), flagsAlone(Bit)
	holdExamples(t, []example{
		{"the chapter's", cmp, set(api.CF), low(5), low(6), low(0), set(api.NF)},
		{"the same", cmp, set(0), low(6), low(6), low(0), set(api.CF | api.ZF)},
		{"more", cmp, set(0), low(255), low(0), low(0), set(api.CF | api.NF)},
		{"more, and bit 7 of both", cmp, set(api.VF), low(200), low(199), low(0), set(api.VF | api.CF)},
		{"a secret carry plays no part", cmp, api.Flags{S: api.CF | api.VF}, low(5), low(6), low(0), api.Flags{P: api.NF, S: api.VF}},
		{"with a secret", cmp, set(0), secret(6), low(6), low(0), api.Flags{P: api.CF | api.ZF, S: api.CF | api.ZF | api.NF}},
		{"no bit together", bit, set(api.CF), low(0x3f), low(0xc0), low(0), set(api.CF | api.ZF | api.VF | api.NF)},
		{"a bit together", bit, set(api.ZF), low(0x40), low(0x40), low(0), set(api.VF)},
		{"a secret a makes ZF alone secret", bit, set(0), secret(0), low(0x80), low(0), api.Flags{P: api.ZF | api.NF, S: api.ZF}},
		{"a secret m makes all three secret", bit, set(0), low(0), secret(0x80), low(0), api.Flags{P: api.ZF | api.NF, S: api.ZF | api.VF | api.NF}},
		{"a secret carry stays", bit, api.Flags{S: 0xff}, low(1), low(1), low(0), api.Flags{S: api.CF | api.IF | api.DF}},
	})
}

// P8.3

func TestShiftsByName(t *testing.T) {
	asl, lsr, rol, ror := ofOne(Asl), ofOne(Lsr), ofOne(Rol), ofOne(Ror)
	none := low(0)
	holdExamples(t, []example{
		{"to the left", asl, set(api.CF), low(0x41), none, low(0x82), set(api.NF)},
		{"out to the left", asl, set(0), low(0x80), none, low(0), set(api.CF | api.ZF)},
		{"a secret carry isn't shifted in", asl, api.Flags{S: api.CF}, low(1), none, low(2), set(0)},
		{"to the right", lsr, set(api.CF), low(0x82), none, low(0x41), set(0)},
		{"down", lsr, set(api.NF), low(1), none, low(0), set(api.CF | api.ZF)},
		{"a secret carry isn't shifted in from above", lsr, api.Flags{S: api.CF}, low(2), none, low(1), set(0)},
		{"the carry as bit 0", rol, set(api.CF), low(0x80), none, low(1), set(api.CF)},
		{"no carry as bit 0", rol, set(0), low(0x80), none, low(0), set(api.CF | api.ZF)},
		{"a secret carry as bit 0", rol, api.Flags{S: api.CF}, low(0x80), none, secret(0), api.Flags{P: api.CF | api.ZF, S: api.ZF | api.NF}},
		{"a secret goes out", rol, set(0), secret(0x80), none, secret(0), api.Flags{P: api.CF | api.ZF, S: api.CF | api.ZF | api.NF}},
		{"the carry as bit 7", ror, set(api.CF), low(1), none, low(0x80), set(api.CF | api.NF)},
		{"no carry as bit 7", ror, set(0), low(1), none, low(0), set(api.CF | api.ZF)},
		{"a secret carry as bit 7", ror, api.Flags{P: api.CF, S: api.CF}, low(1), none, secret(0x80), api.Flags{P: api.CF | api.NF, S: api.ZF | api.NF}},
		{"others stay", ror, api.Flags{P: 0xff, S: 0xfc}, low(0), none, low(0x80), api.Flags{P: 0xcc, S: 0x4c}},
	})
}

// P8.4

func TestArrAndSbxByName(t *testing.T) {
	holdExamples(t, []example{
		{"bits 6 and 5", Arr, set(0), low(0xff), low(0xc0), low(0x60), set(api.CF)},
		{"bit 6 alone", Arr, set(0), low(0x80), low(0xff), low(0x40), set(api.CF | api.VF)},
		{"bit 5 alone", Arr, set(api.CF), low(0x40), low(0x40), low(0xa0), set(api.VF | api.NF)},
		{"neither", Arr, set(api.CF | api.VF), low(0x3f), low(0xc1), low(0x80), set(api.NF)},
		{"what goes out is no carry", Arr, set(0), low(1), low(1), low(0), set(api.ZF)},
		{"a secret carry makes all four secret", Arr, api.Flags{S: api.CF}, low(0), low(0), secret(0), api.Flags{P: api.ZF, S: api.CF | api.ZF | api.VF | api.NF}},
		{"a secret, without the other's bits", Arr, set(0), secret(0xff), low(0), secret(0), api.Flags{P: api.ZF, S: api.CF | api.ZF | api.VF | api.NF}},
		{"a less m", Sbx, set(0), low(9), low(4), low(5), set(api.CF)},
		{"the carry plays no part", Sbx, set(api.CF), low(4), low(4), low(0), set(api.CF | api.ZF)},
		{"around", Sbx, set(api.CF | api.VF), low(0), low(1), low(255), set(api.VF | api.NF)},
		{"a secret carry is gone", Sbx, api.Flags{S: api.CF | api.VF}, low(2), low(1), low(1), api.Flags{P: api.CF, S: api.VF}},
		{"made of both", Sbx, set(0), low(2), secret(1), secret(1), api.Flags{P: api.CF, S: api.CF | api.ZF | api.NF}},
	})
}

// P8.6

func TestAddedIsTakenAwayAgain(t *testing.T) {
	var c chance
	for n := range 256 * 256 {
		a, m := low(uint8(n/256)), low(uint8(n%256))
		f := c.flags()
		f.S &^= 1
		f.P &^= 1
		sum, g := Adc(f, a, m)
		g = Set(g, api.CF, low(1))
		if back, _ := Sbc(g, sum, m); back != a {
			t.Fatalf("%v and %v are %v; that less %v is %v", a, m, sum, m, back)
		}
		f.P |= 1
		rest, g := Sbc(f, a, m)
		g = Set(g, api.CF, low(0))
		if back, _ := Adc(g, rest, m); back != a {
			t.Fatalf("%v less %v is %v; that and %v is %v", a, m, rest, m, back)
		}
	}
}

// other is flags that are alike these, with what is secret in them anything.
func other(f api.Flags, c *chance) api.Flags { return api.Flags{P: f.P ^ c.octet()&f.S, S: f.S} }

// otherByte is a byte that is alike another one, likewise.
func otherByte(b api.Byte, c *chance) api.Byte {
	if b.S {
		b.V = c.octet()
	}
	return b
}

// alike tells whether bytes, and flags, are alike.
func alike(a, b api.Byte, f, g api.Flags) bool {
	return a.S == b.S && (a.S || a.V == b.V) && f.S == g.S && (f.P^g.P)&^f.S == 0
}

// allCalls is all calls as reckonings: those of another shape too, Get and Set once for each octet of bits.
func allCalls() []reckoning {
	l := []reckoning{
		flagsAlone(func(f api.Flags, _, _ api.Byte) api.Flags { return Check(f) }),
		flagsAlone(func(f api.Flags, a, _ api.Byte) api.Flags { return NZ(f, a) }),
		flagsAlone(func(_ api.Flags, a, _ api.Byte) api.Flags { return Pull(a) }),
		func(f api.Flags, _, _ api.Byte) (api.Byte, api.Flags) { return Push(f, true), api.Flags{} },
		func(f api.Flags, _, _ api.Byte) (api.Byte, api.Flags) { return Push(f, false), api.Flags{} },
	}
	for bit := range 256 {
		l = append(l, func(f api.Flags, a, _ api.Byte) (api.Byte, api.Flags) {
			return Get(f, uint8(bit)), Set(f, uint8(bit), a)
		})
	}
	for _, r := range reckonings() {
		l = append(l, r.run)
	}
	return l
}

func TestOfAlikeTheAnswersAreAlike(t *testing.T) {
	var c chance
	for i, run := range allCalls() {
		for n := range 8000 {
			f := c.flags()
			a, m := made(int(c.octet()), n&1 > 0), made(int(c.octet()), n&2 > 0)
			b, g := run(f, a, m)
			f2, a2, m2 := other(f, &c), otherByte(a, &c), otherByte(m, &c)
			if b2, g2 := run(f2, a2, m2); !alike(b, b2, g, g2) {
				t.Fatalf("call %d of %v, %v, %v: %v, %v; of %v, %v, %v: %v, %v", i, f, a, m, b, g, f2, a2, m2, b2, g2)
			}
		}
	}
}

func TestNoLabelChangesAValue(t *testing.T) {
	var c chance
	for i, run := range allCalls() {
		for range 8000 {
			f, v, w := c.flags(), c.octet(), c.octet()
			wantB, wantG := run(api.Flags{P: f.P}, low(v), low(w))
			if wantB.S || wantG.S != 0 {
				t.Fatalf("call %d of %v, %d, %d, all low: %v, %v", i, f.P, v, w, wantB, wantG)
			}
			for labels := range 4 {
				b, g := run(f, made(int(v), labels&1 > 0), made(int(w), labels&2 > 0))
				if b.V != wantB.V || g.P != wantG.P {
					t.Fatalf("call %d of %v, %d, %d with labels %d: %v, %v, want values %v, %v", i, f, v, w, labels, b, g, wantB, wantG)
				}
			}
		}
	}
}
