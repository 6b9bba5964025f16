package tone

import "seepage/api"

// How many rates there are, how far noise counts, and below what its bits are.
const (
	rates      = 16
	noiseCount = 4096
	allBits    = 1 << 15
)

// topBit is that of noise's bits which is put at a shift. How far the other one that tells it is from the lowest.
const (
	topBit   = allBits / 2
	longTap  = 1
	shortTap = 6
)

// shortBit is where an octet tells that noise is short.
const shortBit = 1 << 7

// rateTicks is by how many ticks the bits are shifted, by the rate.
var rateTicks = [rates]uint16{4, 8, 16, 32, 64, 96, 128, 160, 202, 254, 380, 508, 762, 1016, 2034, 4068}

// isNoise tells whether noise may be. Bits that are all 0 would stay so.
func isNoise(n api.Noise) bool {
	return isEnv(n.Env) && n.Rate < rates && n.Count < noiseCount && n.Bits > 0 && n.Bits < allBits
}

// NoiseNew is noise at its beginning.
func NoiseNew() api.Noise { return api.Noise{Bits: 1} }

// NoiseWrite writes a register.
func NoiseWrite(n api.Noise, reg int, v uint8) api.Noise {
	if !isNoise(n) {
		return n
	}
	switch reg {
	case 0:
		n.Env, n.Long = shape(n.Env, n.Long, v)
	case 2:
		n.Short, n.Rate = v&shortBit != 0, v%rates
	case 3:
		n.Long = load(n.Long, v)
		n.Env.Start = true
	}
	return n
}

// NoiseTick ticks.
func NoiseTick(n api.Noise) api.Noise {
	switch {
	case !isNoise(n):
	case n.Count == 0:
		n.Count, n.Bits = rateTicks[n.Rate]-1, shift(n.Bits, n.Short)
	default:
		n.Count--
	}
	return n
}

// shift is noise's bits, shifted.
func shift(bits uint16, short bool) uint16 {
	tap := longTap
	if short {
		tap = shortTap
	}
	if (bits^bits>>tap)&1 == 0 {
		return bits >> 1
	}
	return bits>>1 | topBit
}

// NoiseOut is what comes out.
func NoiseOut(n api.Noise) uint8 {
	if !isNoise(n) || n.Long.N == 0 || n.Bits&1 != 0 {
		return 0
	}
	return level(n.Env)
}
