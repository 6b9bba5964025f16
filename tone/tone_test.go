package tone

import (
	"math"
	"testing"

	"seepage/api"
)

// bools is both.
func bools() []bool { return []bool{false, true} }

// isSet tells whether a number has a bit.
func isSet(n, bit int) bool { return n>>bit%2 == 1 }

// edges is the least and the greatest numbers that are below a limit, and some beyond it, to the last of an octet.
func edges(limit uint8) []uint8 {
	return []uint8{0, 1, limit - 1, limit, limit + 1, 2 * limit, 127, 128, 254, 255}
}

// noRegs is numbers that are no register: beside 0 to 3, at the ends of an int, and such that are one if they are cut to fewer bits.
func noRegs() []int {
	all := []int{4, 5, 7, 8, 12, 31, 100, -2, -3, math.MaxInt, math.MaxInt32, math.MinInt32}
	for reg := range 4 {
		all = append(all, -1-reg, 8+reg, 256+reg, 65536+reg, math.MinInt+reg, math.MaxInt-reg, 1<<32+reg)
	}
	return all
}

// everyEnv calls f with all envelopes that may be.
func everyEnv(f func(e api.Env)) {
	for flags := range 8 {
		for numbers := range 16 * 16 * 16 {
			f(api.Env{
				Loop:  isSet(flags, 0),
				Const: isSet(flags, 1),
				Start: isSet(flags, 2),
				N:     uint8(numbers % 16),
				Div:   uint8(numbers / 16 % 16),
				Decay: uint8(numbers / 256),
			})
		}
	}
}

// someEnvs is some that may be, of each kind.
func someEnvs() []api.Env {
	return []api.Env{
		{},
		{N: 5, Div: 3, Decay: 9},
		{Const: true, N: 15, Decay: 4},
		{Loop: true, N: 7},
		{Start: true, N: 2, Div: 1, Decay: 1},
		{Loop: true, Const: true, Start: true, N: 15, Div: 15, Decay: 15},
	}
}

// everyLong calls f with all lengths.
func everyLong(f func(l api.Long)) {
	for n := range 256 {
		for flags := range 4 {
			f(api.Long{Halt: isSet(flags, 0), On: isSet(flags, 1), N: uint8(n)})
		}
	}
}

// mayBeEnvWords tells whether an envelope may be.
func mayBeEnvWords(e api.Env) bool { return e.N <= 15 && e.Div <= 15 && e.Decay <= 15 }

// clockWords is an envelope, clocked.
func clockWords(e api.Env) api.Env {
	if !mayBeEnvWords(e) {
		return e
	}
	if e.Start {
		return api.Env{Loop: e.Loop, Const: e.Const, N: e.N, Div: e.N, Decay: 15}
	}
	if e.Div != 0 {
		e.Div = e.Div - 1
		return e
	}
	e.Div = e.N
	if e.Decay != 0 {
		e.Decay = e.Decay - 1
	} else if e.Loop {
		e.Decay = 15
	}
	return e
}

// levelWords is an envelope's level.
func levelWords(e api.Env) uint8 {
	if !e.Const {
		return e.Decay
	}
	return e.N
}

// longWords is a length, clocked.
func longWords(l api.Long) api.Long {
	if l.Halt || l.N == 0 {
		return l
	}
	return api.Long{Halt: l.Halt, On: l.On, N: l.N - 1}
}

// loadedWords is what a length is of, by the number that loads it: the even ones are what notes of two tempos last, the odd ones but the first count up by twos.
func loadedWords(number int) uint8 {
	switch {
	case number == 1:
		return 254
	case number%2 == 1:
		return uint8(number - 1)
	}
	slow := number >= 16
	base := []uint8{10, 20, 40, 80, 160, 60, 14, 26}
	if slow {
		base = []uint8{12, 24, 48, 96, 192, 72, 16, 32}
	}
	return base[number%16/2]
}

// loadWords is a length, loaded.
func loadWords(l api.Long, number int) api.Long {
	if !l.On {
		return l
	}
	return api.Long{Halt: l.Halt, On: true, N: loadedWords(number)}
}

// P18.1

// goods is one of each channel, that may be.
func goods() (api.Pulse, api.Triangle, api.Noise) {
	p := api.Pulse{Env: someEnvs()[1], Duty: 3, Step: 7, Period: 2047, Count: 2047, Every: 7, Shift: 7, Left: 7}
	t := api.Triangle{Linear: 127, From: 127, Step: 31, Period: 2047, Count: 2047}
	n := api.Noise{Env: someEnvs()[5], Rate: 15, Count: 4095, Bits: 32767}
	return p, t, n
}

func TestCheck(t *testing.T) {
	p, x, n := goods()
	hold := func(p api.Pulse, x api.Triangle, n api.Noise) {
		t.Helper()
		want := api.ErrArg
		if mayBePulseWords(p) && mayBeTriangleWords(x) && mayBeNoiseWords(n) {
			want = api.OK
		}
		if got := Check(p, x, n); got != want {
			t.Fatalf("Check(%v, %v, %v) = %d, want %d", p, x, n, got, want)
		}
	}
	hold(p, x, n)
	hold(api.Pulse{}, api.Triangle{}, NoiseNew())
	hold(api.Pulse{}, api.Triangle{}, api.Noise{})
	everyPulseNumber(func(p api.Pulse) { hold(p, x, n) })
	everyTriangleNumber(func(x api.Triangle) { hold(p, x, n) })
	everyNoiseNumber(func(n api.Noise) { hold(p, x, n) })
}

// One of the three is enough, whichever it is, and so are two, or all.
func TestCheckOfSomeThatMayNotBe(t *testing.T) {
	for which := range 8 {
		p, x, n := goods()
		want := api.OK
		if isSet(which, 0) {
			p.Duty, want = 4, api.ErrArg
		}
		if isSet(which, 1) {
			x.Step, want = 32, api.ErrArg
		}
		if isSet(which, 2) {
			n.Bits, want = 0, api.ErrArg
		}
		if got := Check(p, x, n); got != want {
			t.Errorf("Check of %d = %d, want %d", which, got, want)
		}
	}
}

// Each limit by its name: the last one that may be, and the first one that may not.
func TestCheckAtItsEdges(t *testing.T) {
	p, x, n := goods()
	for i, c := range []struct {
		change func(p *api.Pulse, x *api.Triangle, n *api.Noise)
		want   api.Errno
	}{
		{func(p *api.Pulse, x *api.Triangle, n *api.Noise) { p.Env.N = 15 }, api.OK},
		{func(p *api.Pulse, x *api.Triangle, n *api.Noise) { p.Env.N = 16 }, api.ErrArg},
		{func(p *api.Pulse, x *api.Triangle, n *api.Noise) { p.Env.Div = 16 }, api.ErrArg},
		{func(p *api.Pulse, x *api.Triangle, n *api.Noise) { p.Env.Decay = 16 }, api.ErrArg},
		{func(p *api.Pulse, x *api.Triangle, n *api.Noise) { p.Duty = 4 }, api.ErrArg},
		{func(p *api.Pulse, x *api.Triangle, n *api.Noise) { p.Step = 8 }, api.ErrArg},
		{func(p *api.Pulse, x *api.Triangle, n *api.Noise) { p.Every = 8 }, api.ErrArg},
		{func(p *api.Pulse, x *api.Triangle, n *api.Noise) { p.Shift = 8 }, api.ErrArg},
		{func(p *api.Pulse, x *api.Triangle, n *api.Noise) { p.Left = 8 }, api.ErrArg},
		{func(p *api.Pulse, x *api.Triangle, n *api.Noise) { p.Period = 2048 }, api.ErrArg},
		{func(p *api.Pulse, x *api.Triangle, n *api.Noise) { p.Count = 2048 }, api.ErrArg},
		{func(p *api.Pulse, x *api.Triangle, n *api.Noise) { p.Long.N = 255 }, api.OK},
		{func(p *api.Pulse, x *api.Triangle, n *api.Noise) { x.Linear = 128 }, api.ErrArg},
		{func(p *api.Pulse, x *api.Triangle, n *api.Noise) { x.From = 128 }, api.ErrArg},
		{func(p *api.Pulse, x *api.Triangle, n *api.Noise) { x.Step = 32 }, api.ErrArg},
		{func(p *api.Pulse, x *api.Triangle, n *api.Noise) { x.Period = 2048 }, api.ErrArg},
		{func(p *api.Pulse, x *api.Triangle, n *api.Noise) { x.Count = 2048 }, api.ErrArg},
		{func(p *api.Pulse, x *api.Triangle, n *api.Noise) { x.Long.N = 255 }, api.OK},
		{func(p *api.Pulse, x *api.Triangle, n *api.Noise) { n.Env.N = 16 }, api.ErrArg},
		{func(p *api.Pulse, x *api.Triangle, n *api.Noise) { n.Env.Div = 16 }, api.ErrArg},
		{func(p *api.Pulse, x *api.Triangle, n *api.Noise) { n.Env.Decay = 16 }, api.ErrArg},
		{func(p *api.Pulse, x *api.Triangle, n *api.Noise) { n.Rate = 16 }, api.ErrArg},
		{func(p *api.Pulse, x *api.Triangle, n *api.Noise) { n.Count = 4096 }, api.ErrArg},
		{func(p *api.Pulse, x *api.Triangle, n *api.Noise) { n.Bits = 0 }, api.ErrArg},
		{func(p *api.Pulse, x *api.Triangle, n *api.Noise) { n.Bits = 1 }, api.OK},
		{func(p *api.Pulse, x *api.Triangle, n *api.Noise) { n.Bits = 32768 }, api.ErrArg},
		{func(p *api.Pulse, x *api.Triangle, n *api.Noise) { n.Long.N = 255 }, api.OK},
	} {
		q, y, m := p, x, n
		c.change(&q, &y, &m)
		if got := Check(q, y, m); got != c.want {
			t.Errorf("Check of change %d = %d, want %d", i, got, c.want)
		}
	}
}

func TestEnvClock(t *testing.T) {
	everyEnv(func(e api.Env) {
		if got, want := EnvClock(e), clockWords(e); got != want {
			t.Fatalf("EnvClock(%v) = %v, want %v", e, got, want)
		}
	})
}

// envsBeyond is some that may not be, by each of their numbers.
func envsBeyond() []api.Env {
	var all []api.Env
	for _, e := range someEnvs() {
		for n := 16; n < 256; n++ {
			a, b, c := e, e, e
			a.N, b.Div, c.Decay = uint8(n), uint8(n), uint8(n)
			all = append(all, a, b, c)
		}
		e.N, e.Div, e.Decay = 16, 255, 128
		all = append(all, e)
	}
	return all
}

func TestEnvClockOfWhatMayNotBe(t *testing.T) {
	for _, e := range envsBeyond() {
		if got := EnvClock(e); got != e {
			t.Fatalf("EnvClock(%v) = %v, want it as it was", e, got)
		}
	}
}

// An envelope clocked on and on: from 15 down to 0 in steps of one more than its number, there it stays, or goes around.
func TestEnvFromStartToEnd(t *testing.T) {
	for n := range 16 {
		for _, loop := range bools() {
			e := EnvClock(api.Env{Start: true, Loop: loop, N: uint8(n), Decay: 3})
			for clock := range 40 * (n + 1) {
				want := 15 - clock/(n+1)
				if want < 0 && !loop {
					want = 0
				}
				if want = (want + 48) % 16; e.Start || int(e.Decay) != want {
					t.Fatalf("by %d, goes around %v: %v behind %d more clocks, want %d", n, loop, e, clock, want)
				}
				e = EnvClock(e)
			}
		}
	}
}

func TestLongClock(t *testing.T) {
	everyLong(func(l api.Long) {
		if got, want := LongClock(l), longWords(l); got != want {
			t.Fatalf("LongClock(%v) = %v, want %v", l, got, want)
		}
	})
}

func TestLongOn(t *testing.T) {
	everyLong(func(l api.Long) {
		if got, want := LongOn(l, true), (api.Long{Halt: l.Halt, On: true, N: l.N}); got != want {
			t.Fatalf("LongOn(%v, true) = %v, want %v", l, got, want)
		}
		if got, want := LongOn(l, false), (api.Long{Halt: l.Halt}); got != want {
			t.Fatalf("LongOn(%v, false) = %v, want %v", l, got, want)
		}
	})
}

func TestNoiseNew(t *testing.T) {
	if got, want := NoiseNew(), (api.Noise{Bits: 1}); got != want {
		t.Errorf("NoiseNew() = %v, want %v", got, want)
	}
}

// wantLengths is the lengths, as the chapter lists them.
func wantLengths() []uint8 {
	return []uint8{10, 254, 20, 2, 40, 4, 80, 6, 160, 8, 60, 10, 14, 12, 26, 14, 12, 16, 24, 18, 48, 20, 96, 22, 192, 24, 72, 26, 16, 28, 32, 30}
}

// Each channel's last register loads its length, if it is on.
func TestLengths(t *testing.T) {
	for number, want := range wantLengths() {
		if loadedWords(number) != want {
			t.Fatalf("by the words of these tests length %d is %d, want %d", number, loadedWords(number), want)
		}
		for low := range 8 {
			v := uint8(8*number + low)
			everyLong(func(l api.Long) {
				kept := l
				if l.On {
					kept.N = want
				}
				p := PulseWrite(api.Pulse{Long: l}, 3, v).Long
				x := TriangleWrite(api.Triangle{Long: l}, 3, v).Long
				n := NoiseWrite(api.Noise{Long: l, Bits: 1}, 3, v).Long
				if p != kept || x != kept || n != kept {
					t.Fatalf("%v loaded by %d: %v, %v, %v, want %v", l, v, p, x, n, kept)
				}
			})
		}
	}
}

// The chapter's examples.

func TestExamples(t *testing.T) {
	if p := PulseWrite(api.Pulse{Long: api.Long{On: true}}, 3, 8); p.Long.N != 254 {
		t.Errorf("length 1 is %d", p.Long.N)
	}
	if out := TriangleOut(api.Triangle{}); out != 15 {
		t.Errorf("a triangle at step 0: %d", out)
	}
	p := api.Pulse{Env: api.Env{Const: true, N: 9}, Long: api.Long{N: 1}, Duty: 2, Step: 2, Period: 7, Shift: 7}
	if out := PulseOut(p); out != 0 {
		t.Errorf("a pulse of period 7: %d", out)
	}
	if p.Period = 8; PulseOut(p) != 9 {
		t.Errorf("a pulse of period 8: %d", PulseOut(p))
	}
}
