package tone

import (
	"testing"

	"seepage/api"
)

// somePulses is some that may be, each flag and number of which is in one what it isn't in another.
func somePulses() []api.Pulse {
	return []api.Pulse{
		{},
		{Env: someEnvs()[1], Long: api.Long{On: true, N: 20}, Duty: 2, Step: 3, Period: 300, Count: 12, Sweep: true, Every: 3, Shift: 1, Left: 2},
		{Second: true, Env: someEnvs()[2], Long: api.Long{Halt: true, On: true, N: 1}, Duty: 1, Step: 1, Period: 1365, Sweep: true, Neg: true, Every: 7, Shift: 3},
		{Env: someEnvs()[3], Long: api.Long{On: true, N: 254}, Duty: 3, Step: 7, Period: 8, Count: 1, Sweep: true, Neg: true, New: true, Shift: 2},
		{Second: true, Env: someEnvs()[4], Duty: 0, Step: 1, Period: 2047, Count: 2047, New: true, Every: 1, Shift: 7, Left: 7},
		{Env: someEnvs()[5], Long: api.Long{Halt: true, N: 255}, Duty: 3, Step: 0, Period: 1023, Count: 0, Sweep: true, Every: 2, Shift: 1},
		{Second: true, Env: someEnvs()[5], Long: api.Long{On: true, N: 2}, Duty: 2, Step: 4, Period: 7, Count: 700, Sweep: true, New: true, Every: 5, Left: 1},
	}
}

// withPulseFlags is a pulse with other flags, by their bits.
func withPulseFlags(p api.Pulse, flags int) api.Pulse {
	p.Second, p.Sweep, p.Neg, p.New = isSet(flags, 0), isSet(flags, 1), isSet(flags, 2), isSet(flags, 3)
	p.Long.Halt, p.Long.On = isSet(flags, 4), isSet(flags, 5)
	return p
}

// withOctet is a pulse with another of its small numbers, by its place.
func withOctet(p api.Pulse, place int, v uint8) api.Pulse {
	*[]*uint8{&p.Env.N, &p.Env.Div, &p.Env.Decay, &p.Long.N, &p.Duty, &p.Step, &p.Every, &p.Shift, &p.Left}[place] = v
	return p
}

// everyPulseNumber calls f with pulses in which each number is all that its type lets it be, beside some of the others and all flags.
func everyPulseNumber(f func(p api.Pulse)) {
	for _, some := range somePulses() {
		for flags := range 64 {
			p := withPulseFlags(some, flags)
			for n := range 256 * 9 {
				f(withOctet(p, n/256, uint8(n%256)))
			}
		}
		for n := range 65536 {
			p, q := some, some
			p.Period, q.Count = uint16(n), uint16(n)
			f(p)
			f(q)
		}
	}
}

// mayBePulseWords tells whether a pulse may be.
func mayBePulseWords(p api.Pulse) bool {
	switch {
	case !mayBeEnvWords(p.Env), p.Duty > 3, p.Step > 7, p.Every > 7, p.Shift > 7, p.Left > 7, p.Period > 2047, p.Count > 2047:
		return false
	}
	return true
}

// targetWords is a sweep's target.
func targetWords(p api.Pulse) int {
	shifted := int(p.Period)
	for range p.Shift {
		shifted /= 2
	}
	switch {
	case !p.Neg:
		return int(p.Period) + shifted
	case p.Second:
		return int(p.Period) - shifted
	}
	return max(int(p.Period)-shifted-1, 0)
}

// muteWords tells whether a pulse is mute.
func muteWords(p api.Pulse) bool { return p.Period <= 7 || targetWords(p) >= 2048 }

// P18.2

// pulseWriteWords is a pulse that may be, behind a write.
func pulseWriteWords(p api.Pulse, reg int, v int) api.Pulse {
	switch reg {
	case 0:
		p.Duty = uint8(v >> 6)
		p.Long.Halt, p.Env.Loop, p.Env.Const = isSet(v, 5), isSet(v, 5), isSet(v, 4)
		p.Env.N = uint8(v % 16)
	case 1:
		p.Sweep, p.Neg, p.New = isSet(v, 7), isSet(v, 3), true
		p.Every, p.Shift = uint8(v>>4%8), uint8(v%8)
	case 2:
		p.Period = p.Period&0x700 | uint16(v)
	case 3:
		p.Period = p.Period&0xff | uint16(v%8)<<8
		p.Long = loadWords(p.Long, v>>3)
		p.Env.Start, p.Step = true, 0
	}
	return p
}

func TestPulseWrite(t *testing.T) {
	for _, some := range somePulses() {
		for flags := range 64 {
			p := withPulseFlags(some, flags)
			for n := range 4 * 256 {
				reg, v := n/256, n%256
				if got, want := PulseWrite(p, reg, uint8(v)), pulseWriteWords(p, reg, v); got != want {
					t.Fatalf("PulseWrite(%v, %d, %d) = %v, want %v", p, reg, v, got, want)
				}
			}
		}
	}
}

// Both halves of a period, over all periods.
func TestPulseWriteOfPeriods(t *testing.T) {
	p := somePulses()[2]
	for period := range 2048 {
		p.Period = uint16(period)
		for v := range 256 {
			if got := PulseWrite(p, 2, uint8(v)); int(got.Period) != period-period%256+v {
				t.Fatalf("PulseWrite of %d to 2 of period %d: %d", v, period, got.Period)
			}
			if got := PulseWrite(p, 3, uint8(v)); int(got.Period) != v%8*256+period%256 {
				t.Fatalf("PulseWrite of %d to 3 of period %d: %d", v, period, got.Period)
			}
		}
	}
}

func TestPulseWriteOfNoRegister(t *testing.T) {
	for _, p := range somePulses() {
		for _, reg := range noRegs() {
			for v := range 256 {
				if got := PulseWrite(p, reg, uint8(v)); got != p {
					t.Fatalf("PulseWrite(%v, %d, %d) = %v, want it as it was", p, reg, v, got)
				}
			}
		}
	}
}

// pulseTickWords is a pulse that may be, behind a tick.
func pulseTickWords(p api.Pulse) api.Pulse {
	switch {
	case p.Count != 0:
		p.Count--
	case p.Step == 0:
		p.Count, p.Step = p.Period, 7
	default:
		p.Count, p.Step = p.Period, p.Step-1
	}
	return p
}

func TestPulseTick(t *testing.T) {
	everyPulseNumber(func(p api.Pulse) {
		want := p
		if mayBePulseWords(p) {
			want = pulseTickWords(p)
		}
		if got := PulseTick(p); got != want {
			t.Fatalf("PulseTick(%v) = %v, want %v", p, got, want)
		}
	})
}

// Each step of each period at its end.
func TestPulseTickAtTheEnd(t *testing.T) {
	for period := range 2048 {
		for step := range 8 {
			p := api.Pulse{Period: uint16(period), Step: uint8(step)}
			if got, want := PulseTick(p), (api.Pulse{Period: uint16(period), Count: uint16(period), Step: uint8((step + 7) % 8)}); got != want {
				t.Fatalf("PulseTick(%v) = %v, want %v", p, got, want)
			}
		}
	}
}

func TestPulseQuarter(t *testing.T) {
	everyPulseNumber(func(p api.Pulse) {
		want := p
		if mayBePulseWords(p) {
			want.Env = clockWords(p.Env)
		}
		if got := PulseQuarter(p); got != want {
			t.Fatalf("PulseQuarter(%v) = %v, want %v", p, got, want)
		}
	})
	everyEnv(func(e api.Env) {
		for _, p := range somePulses() {
			p.Env = e
			want := p
			want.Env = clockWords(e)
			if got := PulseQuarter(p); got != want {
				t.Fatalf("PulseQuarter(%v) = %v, want %v", p, got, want)
			}
		}
	})
}

// pulseHalfWords is a pulse that may be, behind a half.
func pulseHalfWords(p api.Pulse) api.Pulse {
	want := p
	want.Long = longWords(p.Long)
	if p.Left == 0 && p.Sweep && p.Shift != 0 && !muteWords(p) {
		want.Period = uint16(targetWords(p))
	}
	if p.Left == 0 || p.New {
		want.Left, want.New = p.Every, false
		return want
	}
	want.Left = p.Left - 1
	return want
}

func TestPulseHalf(t *testing.T) {
	everyPulseNumber(func(p api.Pulse) {
		want := p
		if mayBePulseWords(p) {
			want = pulseHalfWords(p)
		}
		if got := PulseHalf(p); got != want {
			t.Fatalf("PulseHalf(%v) = %v, want %v", p, got, want)
		}
	})
}

// everySweep calls f with pulses of all periods, shifts and directions.
func everySweep(f func(p api.Pulse)) {
	for period := range 2048 {
		for n := range 32 {
			f(api.Pulse{Second: isSet(n, 0), Neg: isSet(n, 1), Shift: uint8(n / 4), Period: uint16(period)})
		}
	}
}

func TestPulseHalfOfSweeps(t *testing.T) {
	everySweep(func(p api.Pulse) {
		for n := range 32 {
			p.Sweep, p.New, p.Left, p.Every = isSet(n, 0), isSet(n, 1), uint8(n/4), uint8(7-n/4)
			p.Long = api.Long{N: uint8(n), Halt: isSet(n, 2)}
			if got, want := PulseHalf(p), pulseHalfWords(p); got != want {
				t.Fatalf("PulseHalf(%v) = %v, want %v", p, got, want)
			}
		}
	})
}

// Some sweeps by hand: those that go, and those that don't.
func TestPulseHalfByHand(t *testing.T) {
	for _, c := range []struct {
		p    api.Pulse
		want uint16
	}{
		{api.Pulse{Sweep: true, Shift: 1, Period: 100}, 150},
		{api.Pulse{Sweep: true, Shift: 1, Period: 100, Second: true}, 150},
		{api.Pulse{Sweep: true, Shift: 1, Period: 100, Neg: true}, 49},
		{api.Pulse{Sweep: true, Shift: 1, Period: 100, Neg: true, Second: true}, 50},
		{api.Pulse{Sweep: true, Shift: 7, Period: 100, Neg: true}, 99},
		{api.Pulse{Sweep: true, Shift: 7, Period: 100, Neg: true, Second: true}, 100},
		{api.Pulse{Sweep: true, Shift: 1, Period: 8, Neg: true}, 3},
		{api.Pulse{Sweep: true, Shift: 1, Period: 7, Neg: true}, 7},
		{api.Pulse{Sweep: true, Shift: 1, Period: 1365}, 2047},
		{api.Pulse{Sweep: true, Shift: 1, Period: 1366}, 1366},
		{api.Pulse{Sweep: true, Shift: 7, Period: 2047}, 2047},
		{api.Pulse{Sweep: true, Shift: 7, Period: 2047, Neg: true}, 2031},
		{api.Pulse{Sweep: true, Period: 100}, 100},
		{api.Pulse{Shift: 1, Period: 100}, 100},
		{api.Pulse{Sweep: true, Shift: 1, Period: 100, Left: 1}, 100},
		{api.Pulse{Sweep: true, Shift: 1, Period: 100, Left: 1, New: true}, 100},
		{api.Pulse{Sweep: true, Shift: 1, Period: 100, New: true}, 150},
	} {
		if got := PulseHalf(c.p).Period; got != c.want {
			t.Errorf("PulseHalf(%v): period %d, want %d", c.p, got, c.want)
		}
	}
}

// heardWords tells whether a duty is heard at a step.
func heardWords(duty, step uint8) bool {
	switch duty {
	case 0:
		return step == 1
	case 1:
		return step == 1 || step == 2
	case 2:
		return step >= 1 && step <= 4
	}
	return step != 1 && step != 2
}

// pulseOutWords is what comes out of a pulse.
func pulseOutWords(p api.Pulse) uint8 {
	if !mayBePulseWords(p) || p.Long.N == 0 || muteWords(p) || !heardWords(p.Duty, p.Step) {
		return 0
	}
	return levelWords(p.Env)
}

// holdToPulseOut fails where something else comes out than the words say.
func holdToPulseOut(t *testing.T, p api.Pulse) {
	if got, want := PulseOut(p), pulseOutWords(p); got != want {
		t.Helper()
		t.Fatalf("PulseOut(%v) = %d, want %d", p, got, want)
	}
}

func TestPulseOut(t *testing.T) {
	everyPulseNumber(func(p api.Pulse) { holdToPulseOut(t, p) })
	for n := range 32 * 256 {
		p := api.Pulse{Duty: uint8(n % 4), Step: uint8(n / 4 % 8), Long: api.Long{N: uint8(n / 32)}, Period: 8, Shift: 1}
		for _, p.Env = range someEnvs() {
			holdToPulseOut(t, p)
		}
	}
}

func TestPulseOutByLevel(t *testing.T) {
	everyEnv(func(e api.Env) {
		p := api.Pulse{Env: e, Duty: 3, Long: api.Long{N: 1}, Period: 1000, Shift: 3}
		if got, want := PulseOut(p), levelWords(e); got != want {
			t.Fatalf("PulseOut(%v) = %d, want %d", p, got, want)
		}
	})
}

// Whether it is mute hangs on period, shift and direction, on no sweep that is on.
func TestPulseOutOfSweeps(t *testing.T) {
	everySweep(func(p api.Pulse) {
		p.Env, p.Long.N, p.Duty = api.Env{Const: true, N: 11}, 1, 3
		for _, p.Sweep = range bools() {
			holdToPulseOut(t, p)
		}
	})
}

// brokenPulses is some that may not be, by each number at its edges.
func brokenPulses() []api.Pulse {
	var all []api.Pulse
	for _, p := range somePulses() {
		for place, limit := range []uint8{16, 16, 16, 255, 4, 8, 8, 8, 8} {
			for _, v := range edges(limit) {
				all = append(all, withOctet(p, place, v))
			}
		}
		for _, v := range []uint16{2048, 2049, 4095, 4096, 32768, 65535} {
			a, b := p, p
			a.Period, b.Count = v, v
			all = append(all, a, b)
		}
	}
	var broken []api.Pulse
	for _, p := range all {
		if !mayBePulseWords(p) {
			broken = append(broken, p)
		}
	}
	return broken
}

func TestPulsesThatMayNotBe(t *testing.T) {
	for _, p := range brokenPulses() {
		for reg := -1; reg < 5; reg++ {
			for v := range 256 {
				if got := PulseWrite(p, reg, uint8(v)); got != p {
					t.Fatalf("PulseWrite(%v, %d, %d) = %v, want it as it was", p, reg, v, got)
				}
			}
		}
		if PulseTick(p) != p || PulseQuarter(p) != p || PulseHalf(p) != p || PulseOut(p) != 0 {
			t.Fatalf("%v: %v, %v, %v, %d, want it as it was, and 0", p, PulseTick(p), PulseQuarter(p), PulseHalf(p), PulseOut(p))
		}
	}
}
