package tone

import (
	"testing"

	"seepage/api"
)

// someNoises is some that may be, each flag and number of which is in one what it isn't in another.
func someNoises() []api.Noise {
	return []api.Noise{
		{Bits: 1},
		{Env: someEnvs()[1], Long: api.Long{On: true, N: 20}, Short: true, Rate: 3, Bits: 64},
		{Env: someEnvs()[2], Long: api.Long{Halt: true, On: true, N: 1}, Rate: 15, Count: 4095, Bits: 32766},
		{Env: someEnvs()[4], Long: api.Long{Halt: true, N: 255}, Short: true, Rate: 8, Count: 1, Bits: 21844},
		{Env: someEnvs()[5], Long: api.Long{N: 2}, Rate: 10, Bits: 16384},
	}
}

// withNoiseFlags is noise with other flags, by their bits.
func withNoiseFlags(n api.Noise, flags int) api.Noise {
	n.Short, n.Long.Halt, n.Long.On = isSet(flags, 0), isSet(flags, 1), isSet(flags, 2)
	return n
}

// everyNoiseNumber calls f with noises in which each number is all that its type lets it be, beside some of the others and all flags.
func everyNoiseNumber(f func(n api.Noise)) {
	for _, some := range someNoises() {
		for flags := range 8 {
			n := withNoiseFlags(some, flags)
			for i := range 256 {
				v := uint8(i)
				a, b, c, d, e := n, n, n, n, n
				a.Env.N, b.Env.Div, c.Env.Decay, d.Long.N, e.Rate = v, v, v, v, v
				for _, m := range []api.Noise{a, b, c, d, e} {
					f(m)
				}
			}
		}
		for i := range 65536 {
			n, m, o := some, some, some
			n.Bits, m.Count, o.Bits = uint16(i), uint16(i), uint16(i)
			o.Short = !o.Short
			f(n)
			f(m)
			f(o)
		}
	}
}

// mayBeNoiseWords tells whether noise may be.
func mayBeNoiseWords(n api.Noise) bool {
	return mayBeEnvWords(n.Env) && n.Rate <= 15 && n.Count <= 4095 && n.Bits >= 1 && n.Bits <= 32767
}

// P18.4

// noiseWriteWords is noise that may be, behind a write.
func noiseWriteWords(n api.Noise, reg int, v int) api.Noise {
	switch reg {
	case 0:
		n.Long.Halt, n.Env.Loop, n.Env.Const = isSet(v, 5), isSet(v, 5), isSet(v, 4)
		n.Env.N = uint8(v % 16)
	case 2:
		n.Short, n.Rate = isSet(v, 7), uint8(v%16)
	case 3:
		n.Long = loadWords(n.Long, v>>3)
		n.Env.Start = true
	}
	return n
}

func TestNoiseWrite(t *testing.T) {
	for _, some := range someNoises() {
		for i := range 8 * 4 * 256 {
			n, reg, v := withNoiseFlags(some, i/1024), i/256%4, i%256
			if got, want := NoiseWrite(n, reg, uint8(v)), noiseWriteWords(n, reg, v); got != want {
				t.Fatalf("NoiseWrite(%v, %d, %d) = %v, want %v", n, reg, v, got, want)
			}
		}
	}
}

// Register 1 is none of noise's.
func TestNoiseWriteOfNoRegister(t *testing.T) {
	for _, n := range someNoises() {
		for _, reg := range append(noRegs(), 1) {
			for v := range 256 {
				if got := NoiseWrite(n, reg, uint8(v)); got != n {
					t.Fatalf("NoiseWrite(%v, %d, %d) = %v, want it as it was", n, reg, v, got)
				}
			}
		}
	}
}

// wantRates is by how many ticks noise is shifted, as the chapter lists it.
func wantRates() []uint16 {
	return []uint16{4, 8, 16, 32, 64, 96, 128, 160, 202, 254, 380, 508, 762, 1016, 2034, 4068}
}

// shiftWords is noise's bits, shifted, bit by bit.
func shiftWords(bits uint16, short bool) uint16 {
	other := 1
	if short {
		other = 6
	}
	var to uint16
	for bit := range 14 {
		if isSet(int(bits), bit+1) {
			to += 1 << bit
		}
	}
	if isSet(int(bits), 0) != isSet(int(bits), other) {
		to += 1 << 14
	}
	return to
}

// noiseTickWords is noise that may be, behind a tick.
func noiseTickWords(n api.Noise) api.Noise {
	if n.Count > 0 {
		n.Count--
		return n
	}
	n.Count = wantRates()[n.Rate] - 1
	n.Bits = shiftWords(n.Bits, n.Short)
	return n
}

// holdToNoiseTick fails where a tick does otherwise than the words.
func holdToNoiseTick(t *testing.T, n api.Noise) {
	want := n
	if mayBeNoiseWords(n) {
		want = noiseTickWords(n)
	}
	if got := NoiseTick(n); got != want {
		t.Helper()
		t.Fatalf("NoiseTick(%v) = %v, want %v", n, got, want)
	}
}

func TestNoiseTick(t *testing.T) {
	everyNoiseNumber(func(n api.Noise) { holdToNoiseTick(t, n) })
}

func TestNoiseTickOfAllBits(t *testing.T) {
	for bits := range 65536 {
		for _, short := range bools() {
			holdToNoiseTick(t, api.Noise{Bits: uint16(bits), Short: short, Rate: uint8(bits % 16)})
		}
	}
}

// By each rate bits are shifted just so many ticks after one another.
func TestNoiseTickByRate(t *testing.T) {
	for rate, ticks := range wantRates() {
		n := NoiseTick(api.Noise{Rate: uint8(rate), Bits: 1})
		for shift := range 3 {
			was := n.Bits
			for tick := range ticks - 1 {
				if n = NoiseTick(n); n.Bits != was {
					t.Fatalf("by rate %d, shift %d: shifted at tick %d, want %d", rate, shift, tick+1, ticks)
				}
			}
			if n = NoiseTick(n); n.Bits != shiftWords(was, false) {
				t.Fatalf("by rate %d, shift %d: %d behind %d at tick %d", rate, shift, n.Bits, was, ticks)
			}
		}
	}
}

// What bit 14 is, by hand.
func TestNoiseTickByHand(t *testing.T) {
	for _, c := range []struct {
		bits  uint16
		short bool
		want  uint16
	}{
		{1, false, 0x4000},
		{2, false, 0x4001},
		{3, false, 1},
		{4, false, 2},
		{0x40, false, 0x20},
		{0x41, false, 0x4020},
		{1, true, 0x4000},
		{2, true, 1},
		{3, true, 0x4001},
		{0x40, true, 0x4020},
		{0x41, true, 0x20},
		{0x7fff, false, 0x3fff},
		{0x7fff, true, 0x3fff},
		{0x4000, false, 0x2000},
	} {
		if got := NoiseTick(api.Noise{Bits: c.bits, Short: c.short}); got != (api.Noise{Bits: c.want, Short: c.short, Count: 3}) {
			t.Errorf("NoiseTick of %x, short %v: %v, want %x", c.bits, c.short, got, c.want)
		}
	}
}

// noiseOutWords is what comes out of noise.
func noiseOutWords(n api.Noise) uint8 {
	if !mayBeNoiseWords(n) || n.Long.N == 0 || isSet(int(n.Bits), 0) {
		return 0
	}
	return levelWords(n.Env)
}

func TestNoiseOut(t *testing.T) {
	hold := func(n api.Noise) {
		t.Helper()
		if got, want := NoiseOut(n), noiseOutWords(n); got != want {
			t.Fatalf("NoiseOut(%v) = %d, want %d", n, got, want)
		}
	}
	everyNoiseNumber(hold)
	everyEnv(func(e api.Env) {
		for _, bits := range []uint16{1, 2, 32766, 32767} {
			hold(api.Noise{Env: e, Long: api.Long{N: 1}, Bits: bits})
		}
	})
	everyLong(func(l api.Long) {
		hold(api.Noise{Env: api.Env{Const: true, N: 13}, Long: l, Bits: 2})
	})
}

// brokenNoises is some that may not be, by each number at its edges.
func brokenNoises() []api.Noise {
	var broken []api.Noise
	add := func(n api.Noise) {
		if !mayBeNoiseWords(n) {
			broken = append(broken, n)
		}
	}
	for _, n := range someNoises() {
		for _, v := range edges(16) {
			a, b, c, d := n, n, n, n
			a.Env.N, b.Env.Div, c.Env.Decay, d.Rate = v, v, v, v
			for _, m := range []api.Noise{a, b, c, d} {
				add(m)
			}
		}
		for _, v := range []uint16{0, 4096, 4097, 32768, 32769, 65535} {
			a, b := n, n
			a.Count, b.Bits = v, v
			add(a)
			add(b)
		}
	}
	return broken
}

func TestNoisesThatMayNotBe(t *testing.T) {
	for _, n := range brokenNoises() {
		for reg := -1; reg < 5; reg++ {
			for v := range 256 {
				if got := NoiseWrite(n, reg, uint8(v)); got != n {
					t.Fatalf("NoiseWrite(%v, %d, %d) = %v, want it as it was", n, reg, v, got)
				}
			}
		}
		if NoiseTick(n) != n || NoiseOut(n) != 0 {
			t.Fatalf("%v: %v, %d, want it as it was, and 0", n, NoiseTick(n), NoiseOut(n))
		}
	}
}
