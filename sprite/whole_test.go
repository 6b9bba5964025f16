package sprite

import (
	"slices"
	"testing"

	"seepage/api"
	"seepage/label"
)

// P15.5

// What is found is on the line, rises, and nothing ahead of the last one is left out; behind it just if there are more.
func TestNothingIsLeftOut(t *testing.T) {
	more := 0
	for seed := range 100 {
		for _, l := range [][]api.Byte{spread(seed), crowded(seed)} {
			for line := range 256 {
				tall := (seed+line)%2 == 0
				found, are, _, _ := Find(l, line, tall)
				last := 63
				if are {
					more++
					last = found[len(found)-1]
				}
				at, rest := 0, 0
				for i := range 64 {
					is := isOnWords(l[4*i].V, line, tall)
					if i > last && is {
						rest++
					}
					if i <= last && is != (at < len(found) && found[at] == i) {
						t.Fatalf("Find(%v, %d, %v) = %v, sprite %d: %v", l, line, tall, found, i, is)
					}
					if i <= last && is {
						at++
					}
				}
				if are != (rest > 0) || at != len(found) || at > 8 || are && at != 8 {
					t.Fatalf("Find(%v, %d, %v) = %v, %v", l, line, tall, found, are)
				}
			}
		}
	}
	if more == 0 {
		t.Error("there were never more")
	}
}

// A row turned about twice is as it was.
func TestTurnedAboutTwice(t *testing.T) {
	l := spread(2)
	l[4*7+2].V = 0x40
	for lo := range 256 {
		for hi := range 256 {
			a, b := api.Byte{V: uint8(lo)}, api.Byte{V: uint8(hi)}
			once, _ := Unit(l, 7, a, b)
			twice, e := Unit(l, 7, api.Byte{V: once.Lo}, api.Byte{V: once.Hi})
			if twice.Lo != a.V || twice.Hi != b.V || e != api.OK {
				t.Fatalf("%d, %d turned about: %+v, twice: %+v, %d", lo, hi, once, twice, e)
			}
		}
	}
}

// Seen on lines one below another, a sprite shows each row of its tiles once, from above, or from below.
func TestRowsOfASprite(t *testing.T) {
	for k := range 8 {
		tall, table, turned := k&1 != 0, k&2 != 0, k&4 != 0
		l := alone(5, 40, 200)
		l[21].V = 0x60
		if turned {
			l[22].V = 0x80
		}
		var rows []uint16
		for line := range 256 {
			if found, _, _, _ := Find(l, line, tall); slices.Contains(found, 5) {
				at, _, _ := Address(l, 5, line, tall, table)
				rows = append(rows, at)
			}
		}
		if turned {
			slices.Reverse(rows)
		}
		first := uint16(0x600)
		if table && !tall {
			first = 0x1600
		}
		var want []uint16
		for row := range uint16(highWords(tall)) {
			want = append(want, first+row%8+row/8*16)
		}
		if !slices.Equal(rows, want) {
			t.Errorf("tall %v, table %v, turned %v: %v, want %v", tall, table, turned, rows, want)
		}
	}
}

// Rules of the whole.

// twin is bytes that are alike: all that is secret has another value.
func twin(l []api.Byte) []api.Byte {
	l = slices.Clone(l)
	for i, b := range l {
		if b.S {
			l[i].V = ^b.V
		}
	}
	return l
}

// someSecrets is a spread in which more or fewer bytes are secret, also none.
func someSecrets(seed int) []api.Byte {
	l, below := crowded(seed), [...]uint8{0, 2, 20, 100}[seed%4]
	for i, b := range spread(seed + 500) {
		l[i].S = b.V < below
	}
	return l
}

// Whether something is secret never hangs on what a secret is, and what is told as low is the same of what is alike.
func TestTwins(t *testing.T) {
	for seed := range 300 {
		a := someSecrets(seed)
		b := twin(a)
		for line := range 256 {
			tall, table := line%2 == 0, line%3 == 0
			x, xm, xs, _ := Find(a, line, tall)
			y, ym, ys, _ := Find(b, line, tall)
			if xs != ys || !xs && (!slices.Equal(x, y) || xm != ym) {
				t.Fatalf("Find of %v, %v: %v, %v, %v, and %v, %v, %v", a, b, x, xm, xs, y, ym, ys)
			}
			i := (line + seed) % 64
			p, ps, _ := Address(a, i, line, tall, table)
			q, qs, _ := Address(b, i, line, tall, table)
			if ps != qs || !ps && p != q {
				t.Fatalf("Address of %v, %v, %d: %d, %v, and %d, %v", a, b, i, p, ps, q, qs)
			}
			lo, hi := a[line], a[255-line]
			u, _ := Unit(a, i, lo, hi)
			w, _ := Unit(b, i, b[line], b[255-line])
			if u.S != w.S || !u.S && u != w {
				t.Fatalf("Unit of %v, %v, %d: %+v, and %+v", a, b, i, u, w)
			}
		}
	}
}

// bare is bytes without labels.
func bare(l []api.Byte) []api.Byte {
	l = slices.Clone(l)
	for i, b := range l {
		l[i] = label.Erase(b)
	}
	return l
}

// No label alters what is told.
func TestLabelsChangeNothing(t *testing.T) {
	for seed := range 300 {
		a := withSecrets(crowded(seed), seed)
		b := bare(a)
		for line := range 256 {
			tall, table, i := line%2 == 0, line%3 == 0, (line+seed)%64
			x, xm, _, _ := Find(a, line, tall)
			y, ym, ys, _ := Find(b, line, tall)
			p, _, _ := Address(a, i, line, tall, table)
			q, qs, _ := Address(b, i, line, tall, table)
			u, _ := Unit(a, i, a[line], a[255-line])
			w, _ := Unit(b, i, b[line], b[255-line])
			u.S = false
			if !slices.Equal(x, y) || xm != ym || ys || p != q || qs || u != w {
				t.Fatalf("%v, on line %d, labels change it", a, line)
			}
		}
	}
}

// What is handed in is not changed, though there be room behind it; what is answered is new.
func TestArgumentsStay(t *testing.T) {
	room := append(withSecrets(crowded(3), 1), withSecrets(spread(4), 2)...)
	was := slices.Clone(room)
	l := room[:256]
	for i := range 64 {
		for line := range 256 {
			found, _, _, _ := Find(l, line, i%2 == 0)
			for k := range found {
				found[k] = -1
			}
			holdToFind(t, l, line, i%2 == 0)
			holdToAddresses(t, l, i, line)
		}
		holdToUnit(t, l, i, api.Byte{V: 0x5a, S: true}, api.Byte{V: 0xc3})
		if !slices.Equal(room, was) {
			t.Fatalf("of sprite %d: what was handed in is another", i)
		}
	}
	some := units(6, 9)
	kept := slices.Clone(some)
	for x := range 300 {
		Dot(some[:8], x)
	}
	Any(some[:8])
	if !slices.Equal(some, kept) {
		t.Error("units that were handed in are others")
	}
}
