package tone

import "seepage/api"

// How many duties there are, steps of each, and numbers of a sweep.
const (
	duties      = 4
	pulseSteps  = 8
	sweepCounts = 8
)

// leastHeard is the least period that is not mute.
const leastHeard = 8

// Where the parts of a pulse's first two octets are.
const (
	dutyWorth  = 64
	negBit     = 1 << 3
	everyWorth = 16
	sweepBit   = 1 << 7
)

// heard is whether a duty is heard: by its number, and by the step.
var heard = [duties][pulseSteps]bool{
	{1: true},
	{1: true, 2: true},
	{1: true, 2: true, 3: true, 4: true},
	{0: true, 3: true, 4: true, 5: true, 6: true, 7: true},
}

// isPulse tells whether a pulse may be.
func isPulse(p api.Pulse) bool {
	sweeps := p.Every < sweepCounts && p.Shift < sweepCounts && p.Left < sweepCounts
	return isEnv(p.Env) && p.Duty < duties && p.Step < pulseSteps && sweeps && p.Period < periods && p.Count < periods
}

// PulseWrite writes a register.
func PulseWrite(p api.Pulse, reg int, v uint8) api.Pulse {
	if !isPulse(p) {
		return p
	}
	switch reg {
	case 0:
		p.Duty = v / dutyWorth
		p.Env, p.Long = shape(p.Env, p.Long, v)
	case 1:
		p.Sweep, p.Neg, p.New = v&sweepBit != 0, v&negBit != 0, true
		p.Every, p.Shift = v/everyWorth%sweepCounts, v%sweepCounts
	case 2:
		p.Period = lower(p.Period, v)
	case 3:
		p.Period = upper(p.Period, v)
		p.Long = load(p.Long, v)
		p.Env.Start, p.Step = true, 0
	}
	return p
}

// PulseTick ticks.
func PulseTick(p api.Pulse) api.Pulse {
	switch {
	case !isPulse(p):
	case p.Count == 0:
		p.Count, p.Step = p.Period, (p.Step+pulseSteps-1)%pulseSteps
	default:
		p.Count--
	}
	return p
}

// PulseQuarter clocks the envelope.
func PulseQuarter(p api.Pulse) api.Pulse {
	if isPulse(p) {
		p.Env = EnvClock(p.Env)
	}
	return p
}

// PulseHalf clocks the length, and the sweep.
func PulseHalf(p api.Pulse) api.Pulse {
	if !isPulse(p) {
		return p
	}
	p.Long = LongClock(p.Long)
	due := p.Left == 0
	if due && p.Sweep && p.Shift > 0 && !isMute(p) {
		p.Period = target(p)
	}
	if due || p.New {
		p.Left, p.New = p.Every, false
	} else {
		p.Left--
	}
	return p
}

// target is to which period a sweep goes.
func target(p api.Pulse) uint16 {
	change := p.Period >> p.Shift
	if !p.Neg {
		return p.Period + change
	}
	to := p.Period - change
	if !p.Second && to > 0 {
		to--
	}
	return to
}

// isMute tells whether a pulse is, by its sweep: that one is not on, or has nothing to shift by, does not matter.
func isMute(p api.Pulse) bool { return p.Period < leastHeard || target(p) >= periods }

// PulseOut is what comes out.
func PulseOut(p api.Pulse) uint8 {
	if !isPulse(p) || p.Long.N == 0 || isMute(p) || !heard[p.Duty][p.Step] {
		return 0
	}
	return level(p.Env)
}
