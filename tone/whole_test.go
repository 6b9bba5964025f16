package tone

import (
	"testing"

	"seepage/api"
)

// P18.5

// chance is numbers of a fixed spread, the same ones each time.
type chance uint64

// below is the next one below a limit.
func (c *chance) below(limit int) int {
	*c = *c*6364136223846793005 + 1442695040888963407
	return int(*c>>33) % limit
}

// env is the next envelope that may be.
func (c *chance) env() api.Env {
	return api.Env{
		Loop:  c.below(2) == 1,
		Const: c.below(2) == 1,
		Start: c.below(2) == 1,
		N:     uint8(c.below(16)),
		Div:   uint8(c.below(16)),
		Decay: uint8(c.below(16)),
	}
}

// long is the next length. It is 0 often, since much hangs on that.
func (c *chance) long() api.Long {
	return api.Long{Halt: c.below(2) == 1, On: c.below(2) == 1, N: uint8(c.below(2) * c.below(256))}
}

// pulse is the next pulse that may be.
func (c *chance) pulse() api.Pulse {
	return api.Pulse{
		Second: c.below(2) == 1,
		Env:    c.env(),
		Long:   c.long(),
		Duty:   uint8(c.below(4)),
		Step:   uint8(c.below(8)),
		Period: uint16(c.below(2048)),
		Count:  uint16(c.below(2) * c.below(2048)),
		Sweep:  c.below(2) == 1,
		Neg:    c.below(2) == 1,
		New:    c.below(2) == 1,
		Every:  uint8(c.below(8)),
		Shift:  uint8(c.below(8)),
		Left:   uint8(c.below(2) * c.below(8)),
	}
}

// triangle is the next triangle that may be.
func (c *chance) triangle() api.Triangle {
	return api.Triangle{
		Long:   c.long(),
		Linear: uint8(c.below(2) * c.below(128)),
		From:   uint8(c.below(128)),
		New:    c.below(2) == 1,
		Step:   uint8(c.below(32)),
		Period: uint16(c.below(2048)),
		Count:  uint16(c.below(2) * c.below(2048)),
	}
}

// noise is the next noise that may be.
func (c *chance) noise() api.Noise {
	return api.Noise{
		Env:   c.env(),
		Long:  c.long(),
		Short: c.below(2) == 1,
		Rate:  uint8(c.below(16)),
		Count: uint16(c.below(2) * c.below(4096)),
		Bits:  uint16(1 + c.below(32767)),
	}
}

// pulseBehind is what the words say is a pulse behind each of its calls.
func pulseBehind(p api.Pulse, reg, v int) [4]api.Pulse {
	quarter := p
	quarter.Env = clockWords(p.Env)
	return [...]api.Pulse{pulseWriteWords(p, reg, v), pulseTickWords(p), quarter, pulseHalfWords(p)}
}

// What may be stays so, and is what the words say, behind all calls, from anywhere.
func TestChannelsStay(t *testing.T) {
	var c chance
	for range 200000 {
		p, x, n := c.pulse(), c.triangle(), c.noise()
		reg, v := c.below(6)-1, c.below(256)
		pulses := [...]api.Pulse{PulseWrite(p, reg, uint8(v)), PulseTick(p), PulseQuarter(p), PulseHalf(p)}
		if want := pulseBehind(p, reg, v); pulses != want {
			t.Fatalf("%v, %d, %d: %v, want %v", p, reg, v, pulses, want)
		}
		triangles := [...]api.Triangle{TriangleWrite(x, reg, uint8(v)), TriangleTick(x), TriangleQuarter(x), x}
		if want := [...]api.Triangle{triangleWriteWords(x, reg, v), triangleTickWords(x), triangleQuarterWords(x), x}; triangles != want {
			t.Fatalf("%v, %d, %d: %v, want %v", x, reg, v, triangles, want)
		}
		noises := [...]api.Noise{NoiseWrite(n, reg, uint8(v)), NoiseTick(n), n, n}
		if want := [...]api.Noise{noiseWriteWords(n, reg, v), noiseTickWords(n), n, n}; noises != want {
			t.Fatalf("%v, %d, %d: %v, want %v", n, reg, v, noises, want)
		}
		for i := range 4 {
			if Check(pulses[i], triangles[i], noises[i]) != api.OK {
				t.Fatalf("%v, %v, %v, %d, %d: behind call %d %v, %v, %v may not be", p, x, n, reg, v, i, pulses[i], triangles[i], noises[i])
			}
		}
		if p, x, n := PulseOut(p), TriangleOut(x), NoiseOut(n); p > 15 || x > 15 || n > 15 {
			t.Fatalf("out come %d, %d, %d", p, x, n)
		}
	}
}

// Channels that go on and on, written now and then, stay some that may be.
func TestChannelsGoOn(t *testing.T) {
	var c chance
	p, q, x, n := api.Pulse{}, api.Pulse{Second: true}, api.Triangle{}, NoiseNew()
	p.Long.On, q.Long.On, x.Long.On, n.Long.On = true, true, true, true
	for step := range 300000 {
		switch reg, v := c.below(4), uint8(c.below(256)); {
		case step%97 == 0:
			p, q, x, n = PulseWrite(p, reg, v), PulseWrite(q, reg, v), TriangleWrite(x, reg, v), NoiseWrite(n, reg, v)
		case step%31 == 0:
			p, q, x, n.Env = PulseQuarter(p), PulseQuarter(q), TriangleQuarter(x), EnvClock(n.Env)
		case step%37 == 0:
			p, q, x.Long, n.Long = PulseHalf(p), PulseHalf(q), LongClock(x.Long), LongClock(n.Long)
		default:
			p, q, x, n = PulseTick(p), PulseTick(q), TriangleTick(x), NoiseTick(n)
		}
		if Check(p, x, n) != api.OK || Check(q, x, n) != api.OK {
			t.Fatalf("at step %d %v, %v, %v, %v may not be", step, p, q, x, n)
		}
		if PulseOut(p) > 15 || PulseOut(q) > 15 || TriangleOut(x) > 15 || NoiseOut(n) > 15 {
			t.Fatalf("at step %d out come %d, %d, %d, %d", step, PulseOut(p), PulseOut(q), TriangleOut(x), NoiseOut(n))
		}
	}
}

// shifted is noise's bits behind its next shift.
func shifted(bits uint16, short bool) uint16 {
	return NoiseTick(api.Noise{Bits: bits, Short: short}).Bits
}

// rounds is how many rounds of each length all bits are in.
func rounds(short bool) map[int]int {
	all := map[int]int{}
	var seen [32768]bool
	for first := 1; first < 32768; first++ {
		bits, long := uint16(first), 0
		for !seen[bits] {
			seen[bits] = true
			bits = shifted(bits, short)
			long++
		}
		if long > 0 {
			if bits != uint16(first) {
				return nil
			}
			all[long]++
		}
	}
	return all
}

func TestNoiseComesAgain(t *testing.T) {
	if all := rounds(false); len(all) != 1 || all[32767] != 1 {
		t.Errorf("noise has rounds %v, want one of 32767", all)
	}
	if all := rounds(true); len(all) != 2 || all[31] != 1 || all[93] != (32767-31)/93 {
		t.Errorf("short noise has rounds %v, want one of 31, and all else of 93", all)
	}
}

// All over, from registers to what comes out.

// A pulse's duties, heard from its last register on: eight steps from 7 down to 0, each of one tick more than its period.
func TestPulseHeard(t *testing.T) {
	for duty, want := range [][8]uint8{
		{0, 0, 0, 0, 0, 0, 12, 0},
		{0, 0, 0, 0, 0, 12, 12, 0},
		{0, 0, 0, 12, 12, 12, 12, 0},
		{12, 12, 12, 12, 12, 0, 0, 12},
	} {
		for _, period := range []int{8, 9, 300} {
			p := PulseWrite(api.Pulse{Long: api.Long{On: true}, Step: 5}, 0, uint8(64*duty+16+12))
			p = PulseWrite(PulseWrite(p, 2, uint8(period%256)), 3, uint8(8+period/256))
			p = PulseWrite(p, 1, 7)
			for tick := range 3 * 8 * (period + 1) {
				p = PulseTick(p)
				if heard := want[tick/(period+1)%8]; PulseOut(p) != heard {
					t.Fatalf("duty %d of period %d at tick %d: %d, want %d", duty, period, tick, PulseOut(p), heard)
				}
			}
		}
	}
}

// A triangle runs through its steps while both of its counters last, and stays where it is behind that.
func TestTriangleHeard(t *testing.T) {
	x := api.Triangle{Long: api.Long{On: true}}
	x = TriangleWrite(TriangleWrite(TriangleWrite(x, 0, 2), 2, 1), 3, 0)
	if x.Period != 1 || x.Long.N != 10 || !x.New {
		t.Fatalf("written: %v", x)
	}
	if x = TriangleTick(TriangleTick(x)); x.Step != 0 {
		t.Fatalf("ahead of a quarter: %v", x)
	}
	x = TriangleQuarter(x)
	for tick := range 200 {
		x = TriangleTick(x)
		if want := triangleOutWords()[(tick/2+1)%32]; TriangleOut(x) != want {
			t.Fatalf("tick %d: %d, want %d", tick, TriangleOut(x), want)
		}
	}
	out := TriangleOut(x)
	for want := 2; want > 0; want-- {
		if x.Linear != uint8(want) {
			t.Fatalf("its linear counter: %d, want %d", x.Linear, want)
		}
		x = TriangleQuarter(x)
	}
	for range 200 {
		if x = TriangleTick(x); TriangleOut(x) != out {
			t.Fatalf("behind its end: %d, want %d", TriangleOut(x), out)
		}
	}
}

// A length runs out, and is silent then, but for a triangle's.
func TestLengthsRunOut(t *testing.T) {
	p := PulseWrite(PulseWrite(PulseWrite(api.Pulse{Long: api.Long{On: true}}, 0, 0xdf), 3, 0x19), 1, 7)
	n := NoiseNew()
	n.Long.On, n.Bits = true, 2
	n = NoiseWrite(NoiseWrite(n, 0, 0x1f), 3, 0x18)
	for half := range 4 {
		want := uint8(15)
		if half >= 2 {
			want = 0
		}
		if PulseOut(p) != want || NoiseOut(n) != want {
			t.Errorf("behind %d halves: %d, %d, want %d", half, PulseOut(p), NoiseOut(n), want)
		}
		p, n.Long = PulseHalf(p), LongClock(n.Long)
	}
	if p.Long = LongOn(p.Long, true); PulseOut(p) != 0 {
		t.Errorf("turned on, without a length: %d", PulseOut(p))
	}
	if p = PulseWrite(p, 3, 0x19); PulseOut(p) != 15 {
		t.Errorf("loaded again: %d", PulseOut(p))
	}
	if p.Long = LongOn(p.Long, false); PulseOut(PulseWrite(p, 3, 0x19)) != 0 {
		t.Errorf("turned off: %d", PulseOut(p))
	}
}

// A sweep upward goes on until it is mute, and stays there.
func TestSweepUntilMute(t *testing.T) {
	p := api.Pulse{Long: api.Long{Halt: true, N: 1}, Env: api.Env{Const: true, N: 6}, Duty: 3, Period: 100}
	p = PulseWrite(p, 1, 0x92)
	for half, want := range []uint16{125, 125, 156, 156, 195, 195, 243, 243, 303, 303, 378, 378, 472, 472, 590, 590, 737, 737, 921, 921, 1151, 1151, 1438, 1438, 1797, 1797, 1797, 1797} {
		p = PulseHalf(p)
		if p.Period != want {
			t.Fatalf("behind %d halves: period %d, want %d", half+1, p.Period, want)
		}
		heard := uint8(6)
		if want == 1797 {
			heard = 0
		}
		if PulseOut(p) != heard {
			t.Fatalf("behind %d halves: %d, want %d", half+1, PulseOut(p), heard)
		}
	}
}
