package alu

import (
	"testing"

	"seepage/api"
)

// six is the bits that are flags: carry, zero, no irq, decimal, overflow, negative.
var six = [6]uint8{1, 2, 4, 8, 64, 128}

// flag is one that a call puts: its bit, whether it is set, and whether one is secret of what it is made of.
type flag struct {
	bit    uint8
	set, s bool
}

// flagged is flags by the words: those that are put as they are put, others as they were.
func flagged(f api.Flags, put ...flag) api.Flags {
	var out api.Flags
	for _, bit := range six {
		is := flag{bit, f.P/bit%2 == 1, f.S/bit%2 == 1}
		for _, p := range put {
			if p.bit == bit {
				is = p
			}
		}
		if is.set {
			out.P += bit
		}
		if is.s {
			out.S += bit
		}
	}
	return out
}

// ofResult is the flags of a byte by the words, and others beside them.
func ofResult(v int, s bool, others ...flag) []flag {
	return append(others, flag{api.NF, v/128 == 1, s}, flag{api.ZF, v == 0, s})
}

// chance is numbers that go all over the place, the same ones each time.
type chance uint32

// octet is the next one.
func (c *chance) octet() uint8 {
	*c = *c*1664525 + 1013904223
	return uint8(*c >> 24)
}

// flags is any flags, bits 4 and 5 too.
func (c *chance) flags() api.Flags { return api.Flags{P: c.octet(), S: c.octet()} }

// everyFlags calls f with all flags: each octet of those that are set, with each of those that are secret.
func everyFlags(f func(api.Flags)) {
	for p := range 256 {
		for s := range 256 {
			f(api.Flags{P: uint8(p), S: uint8(s)})
		}
	}
}

// someFlags is flags of which none, one, or all are set, and likewise secret, with bits 4 and 5 and without.
func someFlags() []api.Flags {
	var l []api.Flags
	octets := []uint8{0, 1, 2, 4, 8, 16, 32, 64, 128, 0x30, 0xcf, 0xff}
	for _, p := range octets {
		for _, s := range octets {
			l = append(l, api.Flags{P: p, S: s})
		}
	}
	return l
}

// edgeBytes is bytes at which flags change, low and secret.
func edgeBytes() []api.Byte {
	var l []api.Byte
	for _, v := range []uint8{0, 1, 2, 63, 64, 127, 128, 129, 170, 192, 254, 255} {
		l = append(l, api.Byte{V: v}, api.Byte{V: v, S: true})
	}
	return l
}

// P8.1

func TestCheckLeavesFlagsAlone(t *testing.T) {
	everyFlags(func(f api.Flags) {
		if got, want := Check(f), flagged(f); got != want {
			t.Fatalf("Check(%v) = %v, want %v", f, got, want)
		}
	})
	if got, want := Check(api.Flags{P: 255, S: 255}), (api.Flags{P: 207, S: 207}); got != want {
		t.Errorf("Check of all bits = %v, want %v", got, want)
	}
	if got := Check(api.Flags{P: 48, S: 48}); got != (api.Flags{}) {
		t.Errorf("Check of bits 4 and 5 = %v, want none", got)
	}
}

// asked is what Get tells by the words.
func asked(f api.Flags, bit uint8) api.Byte {
	var want api.Byte
	for _, one := range six {
		if bit/one%2 == 0 {
			continue
		}
		if f.P/one%2 == 1 {
			want.V = 1
		}
		if f.S/one%2 == 1 {
			want.S = true
		}
	}
	return want
}

func TestGetOfAllFlagsByAllBits(t *testing.T) {
	everyFlags(func(f api.Flags) {
		for bit := range 256 {
			if got, want := Get(f, uint8(bit)), asked(f, uint8(bit)); got != want {
				t.Fatalf("Get(%v, %#x) = %v, want %v", f, bit, got, want)
			}
		}
	})
}

func TestGetByName(t *testing.T) {
	for _, c := range []struct {
		f    api.Flags
		bit  uint8
		want api.Byte
	}{
		{api.Flags{P: 128}, 128, api.Byte{V: 1}},
		{api.Flags{P: 128, S: 64}, 128, api.Byte{V: 1}},
		{api.Flags{P: 128, S: 64}, 192, api.Byte{V: 1, S: true}},
		{api.Flags{S: 1}, 1, api.Byte{S: true}},
		{api.Flags{P: 255, S: 255}, 0, api.Byte{}},
		{api.Flags{P: 255, S: 255}, 16, api.Byte{}},
		{api.Flags{P: 255, S: 255}, 32, api.Byte{}},
		{api.Flags{P: 48, S: 48}, 255, api.Byte{}},
		{api.Flags{P: 207, S: 48}, 255, api.Byte{V: 1}},
	} {
		if got := Get(c.f, c.bit); got != c.want {
			t.Errorf("Get(%v, %#x) = %v, want %v", c.f, c.bit, got, c.want)
		}
	}
}

// putAll is what Set tells by the words.
func putAll(f api.Flags, bit uint8, b api.Byte) api.Flags {
	var put []flag
	for _, one := range six {
		if bit/one%2 == 1 {
			put = append(put, flag{one, b.V > 0, b.S})
		}
	}
	return flagged(f, put...)
}

// holdSet fails where Set doesn't tell what it tells by the words.
func holdSet(t *testing.T, f api.Flags, bit uint8, b api.Byte) {
	t.Helper()
	if got, want := Set(f, bit, b), putAll(f, bit, b); got != want {
		t.Fatalf("Set(%v, %#x, %v) = %v, want %v", f, bit, b, got, want)
	}
}

func TestSetOfEachFlagInAllFlags(t *testing.T) {
	everyFlags(func(f api.Flags) {
		for _, bit := range six {
			holdSet(t, f, bit, api.Byte{V: bit})
			holdSet(t, f, bit, api.Byte{S: true})
		}
	})
}

func TestSetByAllBitsAndAllValues(t *testing.T) {
	for _, f := range someFlags() {
		for bit := range 256 {
			for _, b := range []api.Byte{{}, {V: 1}, {S: true}, {V: 128, S: true}} {
				holdSet(t, f, uint8(bit), b)
			}
		}
		for v := range 256 {
			holdSet(t, f, 130, api.Byte{V: uint8(v)})
			holdSet(t, f, 65, api.Byte{V: uint8(v), S: true})
		}
	}
}

func TestSetByName(t *testing.T) {
	for _, c := range []struct {
		f    api.Flags
		bit  uint8
		b    api.Byte
		want api.Flags
	}{
		{api.Flags{}, 1, api.Byte{V: 1}, api.Flags{P: 1}},
		{api.Flags{}, 1, api.Byte{V: 2}, api.Flags{P: 1}},
		{api.Flags{P: 255}, 1, api.Byte{}, api.Flags{P: 206}},
		{api.Flags{S: 255}, 1, api.Byte{}, api.Flags{S: 206}},
		{api.Flags{}, 192, api.Byte{S: true}, api.Flags{S: 192}},
		{api.Flags{P: 4}, 48, api.Byte{V: 1, S: true}, api.Flags{P: 4}},
		{api.Flags{P: 4}, 0, api.Byte{V: 1, S: true}, api.Flags{P: 4}},
		{api.Flags{}, 255, api.Byte{V: 255, S: true}, api.Flags{P: 207, S: 207}},
	} {
		if got := Set(c.f, c.bit, c.b); got != c.want {
			t.Errorf("Set(%v, %#x, %v) = %v, want %v", c.f, c.bit, c.b, got, c.want)
		}
	}
}

// Each call begins with the flags that it is given, not with those that an earlier one put.
func TestSetKeepsNothing(t *testing.T) {
	f := api.Flags{P: 4, S: 8}
	for range 3 {
		if got, want := Set(f, 1, api.Byte{V: 1}), (api.Flags{P: 5, S: 8}); got != want {
			t.Fatalf("Set(%v, 1, 1) = %v, want %v", f, got, want)
		}
		if got, want := Set(f, 8, api.Byte{}), (api.Flags{P: 4}); got != want {
			t.Fatalf("Set(%v, 8, 0) = %v, want %v", f, got, want)
		}
	}
}

func TestNZOfAllBytesInAllFlags(t *testing.T) {
	hold := func(f api.Flags, b api.Byte) {
		t.Helper()
		if got, want := NZ(f, b), flagged(f, ofResult(int(b.V), b.S)...); got != want {
			t.Fatalf("NZ(%v, %v) = %v, want %v", f, b, got, want)
		}
	}
	everyFlags(func(f api.Flags) {
		for _, b := range []api.Byte{{}, {V: 1}, {V: 128}, {S: true}, {V: 127, S: true}, {V: 255, S: true}} {
			hold(f, b)
		}
	})
	for _, f := range someFlags() {
		for v := range 256 {
			hold(f, api.Byte{V: uint8(v)})
			hold(f, api.Byte{V: uint8(v), S: true})
		}
	}
}

// P8.5

func TestPushOfAllFlags(t *testing.T) {
	everyFlags(func(f api.Flags) {
		known := flagged(f)
		want := api.Byte{V: known.P + 32, S: known.S > 0}
		if got := Push(f, false); got != want {
			t.Fatalf("Push(%v, false) = %v, want %v", f, got, want)
		}
		want.V += 16
		if got := Push(f, true); got != want {
			t.Fatalf("Push(%v, true) = %v, want %v", f, got, want)
		}
	})
}

func TestPushByName(t *testing.T) {
	for _, c := range []struct {
		f    api.Flags
		brk  bool
		want api.Byte
	}{
		{api.Flags{}, true, api.Byte{V: 48}},
		{api.Flags{}, false, api.Byte{V: 32}},
		{api.Flags{P: 16}, false, api.Byte{V: 32}},
		{api.Flags{P: 255}, false, api.Byte{V: 239}},
		{api.Flags{P: 255}, true, api.Byte{V: 255}},
		{api.Flags{S: 48}, true, api.Byte{V: 48}},
		{api.Flags{P: 1, S: 128}, false, api.Byte{V: 33, S: true}},
	} {
		if got := Push(c.f, c.brk); got != c.want {
			t.Errorf("Push(%v, %v) = %v, want %v", c.f, c.brk, got, c.want)
		}
	}
}

func TestPullOfAllBytes(t *testing.T) {
	for v := range 256 {
		low := flagged(api.Flags{P: uint8(v)})
		if got := Pull(api.Byte{V: uint8(v)}); got != low {
			t.Errorf("Pull of %d = %v, want %v", v, got, low)
		}
		want := api.Flags{P: low.P, S: 207}
		if got := Pull(api.Byte{V: uint8(v), S: true}); got != want {
			t.Errorf("Pull of a secret %d = %v, want %v", v, got, want)
		}
	}
}

func TestPulledIsWhatWasPushed(t *testing.T) {
	everyFlags(func(f api.Flags) {
		want := flagged(f)
		if want.S > 0 {
			want.S = 207
		}
		for _, brk := range []bool{false, true} {
			if got := Pull(Push(f, brk)); got != want {
				t.Fatalf("Pull(Push(%v, %v)) = %v, want %v", f, brk, got, want)
			}
		}
	})
}
