package tone

import "seepage/api"

// How many steps a triangle has, and how far its linear counter counts.
const (
	triangleSteps = 32
	linears       = 128
)

// Where the parts of a triangle's first octet are.
const (
	fromBits = linears - 1
	haltBit  = 1 << 7
)

// isTriangle tells whether a triangle may be.
func isTriangle(t api.Triangle) bool {
	return t.Linear < linears && t.From < linears && t.Step < triangleSteps && t.Period < periods && t.Count < periods
}

// TriangleWrite writes a register.
func TriangleWrite(t api.Triangle, reg int, v uint8) api.Triangle {
	if !isTriangle(t) {
		return t
	}
	switch reg {
	case 0:
		t.Long.Halt, t.From = v&haltBit != 0, v&fromBits
	case 2:
		t.Period = lower(t.Period, v)
	case 3:
		t.Period = upper(t.Period, v)
		t.Long = load(t.Long, v)
		t.New = true
	}
	return t
}

// TriangleTick ticks.
func TriangleTick(t api.Triangle) api.Triangle {
	switch {
	case !isTriangle(t):
	case t.Count == 0:
		t.Count = t.Period
		if t.Long.N > 0 && t.Linear > 0 {
			t.Step = (t.Step + 1) % triangleSteps
		}
	default:
		t.Count--
	}
	return t
}

// TriangleQuarter clocks the linear counter.
func TriangleQuarter(t api.Triangle) api.Triangle {
	if !isTriangle(t) {
		return t
	}
	if t.New {
		t.Linear = t.From
	} else if t.Linear > 0 {
		t.Linear--
	}
	if !t.Long.Halt {
		t.New = false
	}
	return t
}

// TriangleOut is what comes out: down in the first half of the steps, and up in the other. One that has ended stays at its step, and is not silent.
func TriangleOut(t api.Triangle) uint8 {
	switch {
	case !isTriangle(t):
		return 0
	case t.Step < levels:
		return highest - t.Step
	}
	return t.Step - levels
}
