package tone

import (
	"testing"

	"seepage/api"
)

// someTriangles is some that may be, each flag and number of which is in one what it isn't in another.
func someTriangles() []api.Triangle {
	return []api.Triangle{
		{},
		{Long: api.Long{On: true, N: 20}, Linear: 5, From: 9, Step: 3, Period: 300, Count: 12},
		{Long: api.Long{Halt: true, On: true, N: 1}, Linear: 127, From: 64, New: true, Step: 31, Period: 1365},
		{Long: api.Long{N: 255}, Linear: 1, From: 127, New: true, Step: 15, Period: 2047, Count: 2047},
		{Long: api.Long{Halt: true, N: 2}, From: 1, Step: 16, Period: 1, Count: 1},
		{Long: api.Long{On: true}, Linear: 3, Step: 30, Period: 256},
	}
}

// everyTriangleNumber calls f with triangles in which each number is all that its type lets it be, beside some of the others and all flags.
func everyTriangleNumber(f func(x api.Triangle)) {
	for _, some := range someTriangles() {
		for flags := range 8 {
			x := some
			x.New, x.Long.Halt, x.Long.On = isSet(flags, 0), isSet(flags, 1), isSet(flags, 2)
			for n := range 256 {
				v := uint8(n)
				a, b, c, d := x, x, x, x
				a.Linear, b.From, c.Step, d.Long.N = v, v, v, v
				for _, y := range []api.Triangle{a, b, c, d} {
					f(y)
				}
			}
		}
		for n := range 65536 {
			x, y := some, some
			x.Period, y.Count = uint16(n), uint16(n)
			f(x)
			f(y)
		}
	}
}

// mayBeTriangleWords tells whether a triangle may be.
func mayBeTriangleWords(x api.Triangle) bool {
	return x.Linear <= 127 && x.From <= 127 && x.Step <= 31 && x.Period <= 2047 && x.Count <= 2047
}

// P18.3

// triangleWriteWords is a triangle that may be, behind a write.
func triangleWriteWords(x api.Triangle, reg int, v int) api.Triangle {
	switch reg {
	case 0:
		x.Long.Halt, x.From = isSet(v, 7), uint8(v%128)
	case 2:
		x.Period = x.Period&0x700 | uint16(v)
	case 3:
		x.Period = x.Period&0xff | uint16(v%8)<<8
		x.Long = loadWords(x.Long, v>>3)
		x.New = true
	}
	return x
}

func TestTriangleWrite(t *testing.T) {
	for _, x := range someTriangles() {
		for n := range 8 * 4 * 256 {
			flags, reg, v := n/1024, n/256%4, n%256
			x.New, x.Long.Halt, x.Long.On = isSet(flags, 0), isSet(flags, 1), isSet(flags, 2)
			if got, want := TriangleWrite(x, reg, uint8(v)), triangleWriteWords(x, reg, v); got != want {
				t.Fatalf("TriangleWrite(%v, %d, %d) = %v, want %v", x, reg, v, got, want)
			}
		}
	}
}

// Both halves of a period, over all periods.
func TestTriangleWriteOfPeriods(t *testing.T) {
	x := someTriangles()[1]
	for period := range 2048 {
		x.Period = uint16(period)
		for v := range 256 {
			if got := TriangleWrite(x, 2, uint8(v)); int(got.Period) != period-period%256+v {
				t.Fatalf("TriangleWrite of %d to 2 of period %d: %d", v, period, got.Period)
			}
			if got := TriangleWrite(x, 3, uint8(v)); int(got.Period) != v%8*256+period%256 {
				t.Fatalf("TriangleWrite of %d to 3 of period %d: %d", v, period, got.Period)
			}
		}
	}
}

// Register 1 is none of a triangle's.
func TestTriangleWriteOfNoRegister(t *testing.T) {
	for _, x := range someTriangles() {
		for _, reg := range append(noRegs(), 1) {
			for v := range 256 {
				if got := TriangleWrite(x, reg, uint8(v)); got != x {
					t.Fatalf("TriangleWrite(%v, %d, %d) = %v, want it as it was", x, reg, v, got)
				}
			}
		}
	}
}

// triangleTickWords is a triangle that may be, behind a tick.
func triangleTickWords(x api.Triangle) api.Triangle {
	if x.Count != 0 {
		x.Count--
		return x
	}
	x.Count = x.Period
	switch {
	case x.Long.N == 0, x.Linear == 0:
	case x.Step == 31:
		x.Step = 0
	default:
		x.Step++
	}
	return x
}

// holdToTriangleTick fails where a tick does otherwise than the words.
func holdToTriangleTick(t *testing.T, x api.Triangle) {
	want := x
	if mayBeTriangleWords(x) {
		want = triangleTickWords(x)
	}
	if got := TriangleTick(x); got != want {
		t.Helper()
		t.Fatalf("TriangleTick(%v) = %v, want %v", x, got, want)
	}
}

func TestTriangleTick(t *testing.T) {
	everyTriangleNumber(func(x api.Triangle) { holdToTriangleTick(t, x) })
}

// Each step by all lengths, and by all that the linear counter can be.
func TestTriangleTickAtTheEnd(t *testing.T) {
	for n := range 32 * 256 {
		for _, linear := range []uint8{0, 1, 2, 64, 127} {
			holdToTriangleTick(t, api.Triangle{Step: uint8(n % 32), Long: api.Long{N: uint8(n / 32)}, Linear: linear, Period: 77})
		}
		for _, long := range []uint8{0, 1, 255} {
			holdToTriangleTick(t, api.Triangle{Step: uint8(n % 32), Long: api.Long{N: long}, Linear: uint8(n / 32), Period: 2047})
		}
	}
}

// triangleQuarterWords is a triangle that may be, behind a quarter.
func triangleQuarterWords(x api.Triangle) api.Triangle {
	want := x
	switch {
	case x.New:
		want.Linear = x.From
	case x.Linear != 0:
		want.Linear = x.Linear - 1
	}
	want.New = x.New && x.Long.Halt
	return want
}

// holdToTriangleQuarter fails where a quarter does otherwise than the words.
func holdToTriangleQuarter(t *testing.T, x api.Triangle) {
	want := x
	if mayBeTriangleWords(x) {
		want = triangleQuarterWords(x)
	}
	if got := TriangleQuarter(x); got != want {
		t.Helper()
		t.Fatalf("TriangleQuarter(%v) = %v, want %v", x, got, want)
	}
}

func TestTriangleQuarter(t *testing.T) {
	everyTriangleNumber(func(x api.Triangle) { holdToTriangleQuarter(t, x) })
	for n := range 8 * 256 * 256 {
		flags := n / 65536
		x := api.Triangle{Linear: uint8(n), From: uint8(n / 256), Step: 4, Period: 5, Count: 6, New: isSet(flags, 0)}
		x.Long = api.Long{Halt: isSet(flags, 1), On: isSet(flags, 2), N: 7}
		holdToTriangleQuarter(t, x)
	}
}

// triangleOutWords is what comes out of a triangle at each of its steps.
func triangleOutWords() []uint8 {
	return []uint8{15, 14, 13, 12, 11, 10, 9, 8, 7, 6, 5, 4, 3, 2, 1, 0, 0, 1, 2, 3, 4, 5, 6, 7, 8, 9, 10, 11, 12, 13, 14, 15}
}

func TestTriangleOut(t *testing.T) {
	everyTriangleNumber(func(x api.Triangle) {
		var want uint8
		if mayBeTriangleWords(x) {
			want = triangleOutWords()[x.Step]
		}
		if got := TriangleOut(x); got != want {
			t.Fatalf("TriangleOut(%v) = %d, want %d", x, got, want)
		}
	})
}

// brokenTriangles is some that may not be, by each number at its edges.
func brokenTriangles() []api.Triangle {
	var broken []api.Triangle
	add := func(x api.Triangle) {
		if !mayBeTriangleWords(x) {
			broken = append(broken, x)
		}
	}
	for _, x := range someTriangles() {
		for i, v := range edges(128) {
			a, b, c := x, x, x
			a.Linear, b.From, c.Step = v, v, edges(32)[i]
			add(a)
			add(b)
			add(c)
		}
		for _, v := range []uint16{2048, 2049, 4095, 4096, 32768, 65535} {
			a, b := x, x
			a.Period, b.Count = v, v
			add(a)
			add(b)
		}
	}
	return broken
}

func TestTrianglesThatMayNotBe(t *testing.T) {
	for _, x := range brokenTriangles() {
		for reg := -1; reg < 5; reg++ {
			for v := range 256 {
				if got := TriangleWrite(x, reg, uint8(v)); got != x {
					t.Fatalf("TriangleWrite(%v, %d, %d) = %v, want it as it was", x, reg, v, got)
				}
			}
		}
		if TriangleTick(x) != x || TriangleQuarter(x) != x || TriangleOut(x) != 0 {
			t.Fatalf("%v: %v, %v, %d, want it as it was, and 0", x, TriangleTick(x), TriangleQuarter(x), TriangleOut(x))
		}
	}
}
