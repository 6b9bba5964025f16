package label

import (
	"math"
	"slices"
	"testing"

	"seepage/api"
)

// everyByte is all bytes: each value, low and secret.
func everyByte() []api.Byte {
	var l []api.Byte
	for v := range 256 {
		l = append(l, api.Byte{V: uint8(v)}, api.Byte{V: uint8(v), S: true})
	}
	return l
}

// edgeBytes is bytes whose bits differ in each way that matters, low and secret, short enough to be taken three at a time.
func edgeBytes() []api.Byte {
	var l []api.Byte
	for _, v := range []uint8{0, 1, 2, 85, 127, 128, 170, 254, 255} {
		l = append(l, api.Byte{V: v}, api.Byte{V: v, S: true})
	}
	return l
}

// bitNumbers is the numbers of bits, and numbers around them and far off of which there is no bit.
func bitNumbers() []int {
	return []int{0, 1, 2, 3, 4, 5, 6, 7, -1, -2, -7, -8, 8, 9, 15, 16, 31, 32, 63, 64, 255, 256, math.MinInt, math.MinInt32, math.MaxInt32, math.MaxInt}
}

// P1.1

func TestLowAndSecretKeepTheValue(t *testing.T) {
	for v := range 256 {
		if got, want := Low(uint8(v)), (api.Byte{V: uint8(v)}); got != want {
			t.Errorf("Low(%d) = %v, want %v", v, got, want)
		}
		if got, want := Secret(uint8(v)), (api.Byte{V: uint8(v), S: true}); got != want {
			t.Errorf("Secret(%d) = %v, want %v", v, got, want)
		}
	}
}

// lists is lists of bytes, and whether one in each is secret.
func lists() []struct {
	from []api.Byte
	want bool
} {
	low, zero, secret, hidden := api.Byte{V: 255}, api.Byte{}, api.Byte{V: 255, S: true}, api.Byte{S: true}
	return []struct {
		from []api.Byte
		want bool
	}{
		{nil, false},
		{[]api.Byte{}, false},
		{[]api.Byte{low}, false},
		{[]api.Byte{zero}, false},
		{[]api.Byte{secret}, true},
		{[]api.Byte{hidden}, true},
		{[]api.Byte{low, zero}, false},
		{[]api.Byte{low, zero, low, zero, low}, false},
		{[]api.Byte{hidden, low}, true},
		{[]api.Byte{low, hidden}, true},
		{[]api.Byte{secret, secret}, true},
		{[]api.Byte{secret, low, low}, true},
		{[]api.Byte{low, secret, low}, true},
		{[]api.Byte{low, low, secret}, true},
		{[]api.Byte{secret, low, hidden}, true},
	}
}

func TestAny(t *testing.T) {
	if Any() {
		t.Error("Any() of none is true")
	}
	for _, c := range lists() {
		if got := Any(c.from...); got != c.want {
			t.Errorf("Any(%v) = %v", c.from, got)
		}
	}
}

func TestAnyLooksAtEachOfMany(t *testing.T) {
	from := make([]api.Byte, 1000)
	if Any(from...) {
		t.Error("Any of 1000 low ones is true")
	}
	for i := range from {
		from[i].S = true
		if !Any(from...) {
			t.Errorf("Any misses the secret one at %d", i)
		}
		from[i].S = false
	}
}

func TestOf(t *testing.T) {
	for v := range 256 {
		if got, want := Of(uint8(v)), (api.Byte{V: uint8(v)}); got != want {
			t.Errorf("Of(%d) of none = %v, want %v", v, got, want)
		}
		for _, c := range lists() {
			if got, want := Of(uint8(v), c.from...), (api.Byte{V: uint8(v), S: c.want}); got != want {
				t.Errorf("Of(%d, %v) = %v, want %v", v, c.from, got, want)
			}
		}
	}
}

func TestWhatIsHandedInIsNotChanged(t *testing.T) {
	for _, c := range lists() {
		before := slices.Clone(c.from)
		Any(c.from...)
		Of(9, c.from...)
		if !slices.Equal(before, c.from) {
			t.Errorf("%v became %v", before, c.from)
		}
	}
}

func TestAlike(t *testing.T) {
	for _, a := range everyByte() {
		for _, b := range everyByte() {
			want := a == b
			if a.S && b.S {
				want = true
			}
			if got := Alike(a, b); got != want {
				t.Errorf("Alike(%v, %v) = %v", a, b, got)
			}
		}
	}
}

func TestErase(t *testing.T) {
	for _, a := range everyByte() {
		if got, want := Erase(a), (api.Byte{V: a.V}); got != want {
			t.Errorf("Erase(%v) = %v, want %v", a, got, want)
		}
	}
}

// P1.2

// slowly makes a value of two, a bit at a time, so that it isn't reckoned as the program does.
func slowly(a, b uint8, bit func(x, y int) bool) uint8 {
	v, worth := 0, 1
	for range 8 {
		if bit(int(a)/worth%2, int(b)/worth%2) {
			v += worth
		}
		worth *= 2
	}
	return uint8(v)
}

func TestBitByBit(t *testing.T) {
	for _, c := range []struct {
		name string
		f    func(a, b api.Byte) api.Byte
		bit  func(x, y int) bool
	}{
		{"And", And, func(x, y int) bool { return x+y == 2 }},
		{"Or", Or, func(x, y int) bool { return x+y > 0 }},
		{"Xor", Xor, func(x, y int) bool { return x+y == 1 }},
	} {
		for _, a := range everyByte() {
			for _, b := range everyByte() {
				want := api.Byte{V: slowly(a.V, b.V, c.bit), S: a.S || b.S}
				if got := c.f(a, b); got != want {
					t.Fatalf("%s(%v, %v) = %v, want %v", c.name, a, b, got, want)
				}
			}
		}
	}
}

func TestAValueThatDecidesAloneStaysSecret(t *testing.T) {
	if got, want := And(Secret(0), Low(255)), Secret(0); got != want {
		t.Errorf("And of a secret 0 and a low 255 = %v", got)
	}
	if got, want := And(Low(0), Secret(255)), Secret(0); got != want {
		t.Errorf("And of a low 0 and a secret 255 = %v", got)
	}
	if got, want := Or(Low(255), Secret(3)), Secret(255); got != want {
		t.Errorf("Or of a low 255 and a secret 3 = %v", got)
	}
	if got, want := Xor(Secret(77), Secret(77)), Secret(0); got != want {
		t.Errorf("Xor of a secret one with itself = %v", got)
	}
}

func TestBit(t *testing.T) {
	for _, a := range everyByte() {
		rest := int(a.V)
		for i := range 8 {
			if got, want := Bit(a, i), (api.Byte{V: uint8(rest % 2), S: a.S}); got != want {
				t.Errorf("Bit(%v, %d) = %v, want %v", a, i, got, want)
			}
			rest /= 2
		}
	}
}

func TestBitsThatAreNone(t *testing.T) {
	for _, a := range everyByte() {
		for _, i := range bitNumbers() {
			if i >= 0 && i <= 7 {
				continue
			}
			if got, want := Bit(a, i), (api.Byte{S: a.S}); got != want {
				t.Errorf("Bit(%v, %d) = %v, want %v", a, i, got, want)
			}
		}
	}
}

func TestMux(t *testing.T) {
	for _, sel := range everyByte() {
		for _, a := range edgeBytes() {
			for _, b := range edgeBytes() {
				want := api.Byte{V: b.V, S: sel.S || a.S || b.S}
				if sel.V == 0 {
					want.V = a.V
				}
				if got := Mux(sel, a, b); got != want {
					t.Errorf("Mux(%v, %v, %v) = %v, want %v", sel, a, b, got, want)
				}
			}
		}
	}
}

// P1.3

func TestWord(t *testing.T) {
	for _, lo := range everyByte() {
		for _, hi := range everyByte() {
			w, s := Word(lo, hi)
			if int(w) != int(lo.V)+256*int(hi.V) || s != (lo.S || hi.S) {
				t.Fatalf("Word(%v, %v) = %d, %v", lo, hi, w, s)
			}
		}
	}
	if w, s := Word(Low(1), Secret(2)); w != 513 || !s {
		t.Errorf("Word of a low 1 and a secret 2 = %d, %v", w, s)
	}
}

func TestSplit(t *testing.T) {
	for w := range 65536 {
		for _, s := range []bool{false, true} {
			lo, hi := Split(uint16(w), s)
			if lo != (api.Byte{V: uint8(w % 256), S: s}) || hi != (api.Byte{V: uint8(w / 256), S: s}) {
				t.Fatalf("Split(%d, %v) = %v, %v", w, s, lo, hi)
			}
			if back, secret := Word(lo, hi); int(back) != w || secret != s {
				t.Fatalf("Word of Split(%d, %v) = %d, %v", w, s, back, secret)
			}
		}
	}
}

// P1.4

// made is all that the package makes of three bytes, as bytes.
func made(a, b, c api.Byte) []api.Byte {
	l := []api.Byte{Of(7), Of(7, a), Of(7, a, b), Of(7, a, b, c), And(a, b), Or(a, b), Xor(a, b), Mux(a, b, c)}
	for _, i := range bitNumbers() {
		l = append(l, Bit(a, i))
	}
	lo, hi := Split(Word(a, b))
	return append(l, lo, hi)
}

func TestOfAlikeOnesWhatIsMadeIsAlike(t *testing.T) {
	// Only of a secret byte may the value differ between two that are alike.
	other := func(b api.Byte, v uint8) api.Byte {
		if b.S {
			b.V ^= v
		}
		return b
	}
	for _, a := range edgeBytes() {
		for _, b := range edgeBytes() {
			for _, c := range edgeBytes() {
				first := made(a, b, c)
				for _, v := range []uint8{1, 128, 255, a.V} {
					second := made(other(a, v), other(b, v), other(c, v))
					if !slices.EqualFunc(first, second, Alike) {
						t.Fatalf("of %v, %v, %v with %d: %v, and %v", a, b, c, v, first, second)
					}
				}
			}
		}
	}
}

func TestNoLabelChangesAValue(t *testing.T) {
	for _, a := range edgeBytes() {
		for _, b := range edgeBytes() {
			for _, c := range edgeBytes() {
				with, without := made(a, b, c), made(Erase(a), Erase(b), Erase(c))
				for i := range with {
					if Erase(with[i]) != without[i] {
						t.Fatalf("of %v, %v, %v: %v with labels, %v without them", a, b, c, with[i], without[i])
					}
				}
			}
		}
	}
}

func TestAlikeIsNotTroubledByASecretsValue(t *testing.T) {
	for v := range 256 {
		for w := range 256 {
			if !Alike(Secret(uint8(v)), Secret(uint8(w))) {
				t.Fatalf("secret %d and secret %d are not alike", v, w)
			}
			if Alike(Secret(uint8(v)), Low(uint8(w))) || Alike(Low(uint8(v)), Secret(uint8(w))) {
				t.Fatalf("%d and %d, one of them secret, are alike", v, w)
			}
		}
	}
}
