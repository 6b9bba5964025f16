package script

import (
	"math"
	"slices"
	"strings"
	"testing"

	"seepage/api"
)

// farNumbers is numbers at and beyond both ends of what is counted here, and as far off as an int goes.
func farNumbers() []int {
	return []int{math.MinInt, math.MinInt + 1, math.MinInt32, -65536, -600, -3, -2, -1, 599, 600, 601, 1199, 1200, 65535, 65536, math.MaxInt32, math.MaxInt / 2, math.MaxInt/2 + 1, math.MaxInt - 1, math.MaxInt}
}

// octets is so many octets that differ from the ones beside them, and go through all values.
func octets(many int) string {
	l := make([]byte, many)
	for at := range l {
		l[at] = byte(at*7 + at/256 + 1)
	}
	return string(l)
}

// upTo is all numbers from 0 to below one.
func upTo(end int) []int {
	var l []int
	for n := range end {
		l = append(l, n)
	}
	return l
}

// mayBe is what the words ask of a script, one part after the other.
func mayBe(s api.Script) bool {
	frames := len(s.Pads) / 2
	if len(s.Pads)%2 == 1 || frames > 600 || len(s.Save) > 8192 || len(s.Ram) > 2048 {
		return false
	}
	for i, frame := range s.Resets {
		if frame < 0 || frame >= frames || i > 0 && frame <= s.Resets[i-1] {
			return false
		}
	}
	return true
}

func errorOf(s api.Script) api.Errno {
	if mayBe(s) {
		return api.OK
	}
	return api.ErrScript
}

// copied is a script that shares no list with one.
func copied(s api.Script) api.Script {
	s.Resets = slices.Clone(s.Resets)
	return s
}

// equal tells by words of its own whether two scripts are the same, part by part.
func equal(a, b api.Script) bool {
	if a.Pads != b.Pads || a.Save != b.Save || a.Ram != b.Ram || len(a.Resets) != len(b.Resets) {
		return false
	}
	for i := range a.Resets {
		if a.Resets[i] != b.Resets[i] {
			return false
		}
	}
	return true
}

// holdToCheck fails where Check of a script says otherwise than the words, or changes it.
func holdToCheck(t *testing.T, s api.Script) {
	t.Helper()
	before := copied(s)
	if got, want := Check(s), errorOf(s); got != want {
		t.Fatalf("Check of %d pads, resets %v, %d kept and %d other cells = %d, want %d", len(s.Pads), s.Resets, len(s.Save), len(s.Ram), got, want)
	}
	if !equal(s, before) {
		t.Fatalf("Check changed resets %v to %v", before.Resets, s.Resets)
	}
}

// listsOf is all lists of none to three of some numbers.
func listsOf(numbers ...int) [][]int {
	all := [][]int{nil, {}}
	for _, a := range numbers {
		all = append(all, []int{a})
		for _, b := range numbers {
			all = append(all, []int{a, b})
			for _, c := range numbers {
				all = append(all, []int{a, b, c})
			}
		}
	}
	return all
}

// refused is scripts that may not be, each one by one thing.
func refused() []api.Script {
	return []api.Script{
		{Pads: "a"},
		{Pads: "abc"},
		{Pads: strings.Repeat("a", 1199)},
		{Pads: strings.Repeat("a", 1201)},
		{Pads: strings.Repeat("a", 1202)},
		{Pads: strings.Repeat("a", 1<<17)},
		{Resets: []int{0}},
		{Resets: []int{-1}},
		{Pads: "ab", Resets: []int{1}},
		{Pads: "ab", Resets: []int{-1}},
		{Pads: "ab", Resets: []int{-1, 0}},
		{Pads: "abcd", Resets: []int{0, 0}},
		{Pads: "abcd", Resets: []int{1, 0}},
		{Pads: "abcd", Resets: []int{2}},
		{Pads: "abcd", Resets: []int{0, 1, 2}},
		{Pads: "abcdef", Resets: []int{0, 2, 1}},
		{Pads: "abcdef", Resets: []int{0, 1, 0}},
		{Pads: "ab", Resets: []int{math.MaxInt}},
		{Pads: "ab", Resets: []int{math.MinInt}},
		{Pads: "abcd", Resets: []int{0, math.MinInt, 1}},
		{Pads: octets(1200), Resets: []int{600}},
		{Save: strings.Repeat("a", 8193)},
		{Save: strings.Repeat("a", 65536)},
		{Ram: strings.Repeat("a", 2049)},
		{Ram: strings.Repeat("a", 8192)},
		{Pads: "a", Resets: []int{0, 0}, Save: strings.Repeat("a", 8193), Ram: strings.Repeat("a", 2049)},
	}
}

// accepted is scripts that may be, at the limits and below them.
func accepted() []api.Script {
	return []api.Script{
		{},
		{Resets: []int{}},
		{Pads: "ab"},
		{Pads: "\u00e9"}, // one rune, but two octets
		{Pads: "ab", Resets: []int{0}},
		{Pads: "abcdef", Resets: []int{0, 2}},
		{Pads: "abcdef", Resets: []int{2}},
		{Pads: octets(1200)},
		{Pads: octets(1200), Resets: []int{599}},
		{Pads: octets(1200), Resets: upTo(600), Save: octets(8192), Ram: octets(2048)},
		{Save: octets(8192)},
		{Save: octets(2049)},
		{Ram: octets(2048)},
		{Save: "a", Ram: "bc"},
	}
}

// P4.1

func TestCheckOfManyOctets(t *testing.T) {
	for many := range 1300 {
		holdToCheck(t, api.Script{Pads: octets(many)})
		holdToCheck(t, api.Script{Pads: octets(many), Resets: []int{599}})
	}
	for _, many := range slices.Concat(upTo(9), []int{2046, 2047, 2048, 2049, 4096, 8190, 8191, 8192, 8193, 16384, 65536, 1 << 20}) {
		holdToCheck(t, api.Script{Pads: octets(many)})
		holdToCheck(t, api.Script{Save: octets(many)})
		holdToCheck(t, api.Script{Ram: octets(many)})
		holdToCheck(t, api.Script{Pads: "ab", Save: octets(many), Ram: octets(many)})
	}
}

func TestCheckOfResets(t *testing.T) {
	for frames := range 5 {
		for _, resets := range listsOf(-2, -1, 0, 1, 2, 3, 4, 5, math.MinInt, math.MaxInt) {
			holdToCheck(t, api.Script{Pads: octets(2 * frames), Resets: resets})
		}
	}
	for _, resets := range listsOf(append(farNumbers(), 0, 300, 598)...) {
		holdToCheck(t, api.Script{Pads: octets(1200), Resets: resets})
	}
}

func TestCheckOfManyResets(t *testing.T) {
	all := upTo(600)
	holdToCheck(t, api.Script{Pads: octets(1200), Resets: all})
	holdToCheck(t, api.Script{Pads: octets(1198), Resets: all})
	for i := range all {
		for _, other := range []int{all[i] - 1, all[i] + 1, -1, 600} {
			changed := slices.Clone(all)
			changed[i] = other
			holdToCheck(t, api.Script{Pads: octets(1200), Resets: changed})
		}
		holdToCheck(t, api.Script{Pads: octets(1200), Resets: slices.Delete(slices.Clone(all), i, i+1)})
	}
}

func TestCheckByName(t *testing.T) {
	for i, s := range accepted() {
		if e := Check(s); e != api.OK {
			t.Errorf("Check of the accepted script %d = %d", i, e)
		}
	}
	for i, s := range refused() {
		if e := Check(s); e != api.ErrScript {
			t.Errorf("Check of the refused script %d = %d", i, e)
		}
	}
}

func TestSame(t *testing.T) {
	texts := []string{"", "a", "b", "ab", "ba", "a\x00", "\xff", "\xfe"}
	resets := [][]int{nil, {}, {0}, {1}, {0, 1}, {1, 0}, {-1}, {0, 1, 2}}
	var all []api.Script
	for _, pads := range texts {
		for _, save := range texts[:5] {
			for _, ram := range texts[:5] {
				all = append(all, api.Script{Pads: pads, Save: save, Ram: ram})
			}
		}
	}
	for _, l := range resets {
		all = append(all, api.Script{Resets: l}, api.Script{Pads: "abcdef", Resets: l}, api.Script{Pads: "abcdef", Resets: l, Save: "a", Ram: "b"})
	}
	for _, a := range append(all, refused()...) {
		for _, b := range append(all, refused()...) {
			if got, want := Same(a, copied(b)), equal(a, b); got != want {
				t.Fatalf("Same(%#v, %#v) = %v", a, b, got)
			}
		}
	}
}

func TestSameOfLongOnes(t *testing.T) {
	a := accepted()[9]
	if !Same(a, copied(a)) {
		t.Error("the longest one isn't the same as itself")
	}
	for at := 0; at < 1200; at += 11 {
		pads, save, ram, reset := copied(a), copied(a), copied(a), copied(a)
		pads.Pads = flipped(a.Pads, at)
		save.Save = flipped(a.Save, 8191-at)
		ram.Ram = flipped(a.Ram, 2047-at)
		reset.Resets[at/2]++
		for _, b := range []api.Script{pads, save, ram, reset} {
			if Same(a, b) || Same(b, a) {
				t.Fatalf("the longest one is the same as one that is changed at %d", at)
			}
		}
	}
}

// flipped is octets of which the one at a place is another one.
func flipped(s string, at int) string {
	l := []byte(s)
	l[at] ^= 0x80
	return string(l)
}

func TestFrames(t *testing.T) {
	for many := range 1300 {
		if got := Frames(api.Script{Pads: octets(many), Save: "abcd", Ram: "abcdefgh", Resets: []int{0, 1, 2}}); got != many/2 {
			t.Errorf("Frames of %d octets = %d", many, got)
		}
	}
	for pads, want := range map[string]int{"": 0, "a": 0, "ab": 1, "abc": 1, "\u00e9\u00e9": 2, "\xff\xff\xff\xff\xff\xff": 3, strings.Repeat("a", 200001): 100000} {
		if got := Frames(api.Script{Pads: pads}); got != want {
			t.Errorf("Frames of %d octets = %d, want %d", len(pads), got, want)
		}
	}
}

func TestPad(t *testing.T) {
	for _, frames := range []int{0, 1, 2, 3, 128, 599, 600} {
		s := api.Script{Pads: octets(2 * frames), Save: "zzz", Ram: "zzz"}
		for frame := range frames {
			for port := range 2 {
				if got, want := Pad(s, frame, port), s.Pads[2*frame+port]; got != want {
					t.Fatalf("Pad(%d, %d) of %d frames = %d, want %d", frame, port, frames, got, want)
				}
			}
		}
	}
}

func TestPadWhereThereIsNone(t *testing.T) {
	s := api.Script{Pads: strings.Repeat("\xff", 12)}
	for _, port := range append(farNumbers(), 2, 3, 4, 5, 6) {
		for _, frame := range append(farNumbers(), 0, 1, 2, 3, 4, 5, 6) {
			if got := Pad(s, frame, port); got != 0 {
				t.Errorf("Pad(%d, %d) = %d", frame, port, got)
			}
		}
	}
	for _, frame := range append(farNumbers(), 6, 7, 11, 12) {
		if one, two := Pad(s, frame, 0), Pad(s, frame, 1); one != 0 || two != 0 {
			t.Errorf("Pad of frame %d: %d and %d", frame, one, two)
		}
	}
	if one, two := Pad(api.Script{}, 0, 0), Pad(api.Script{}, 0, 1); one != 0 || two != 0 {
		t.Errorf("Pad of no frame: %d and %d", one, two)
	}
}

func TestPadOfAllOctets(t *testing.T) {
	for v := range 256 {
		s := api.Script{Pads: string([]byte{byte(v), byte(255 - v)})}
		if one, two := Pad(s, 0, 0), Pad(s, 0, 1); int(one) != v || int(two) != 255-v {
			t.Errorf("Pad of %d and %d: %d and %d", v, 255-v, one, two)
		}
	}
}

func TestPadByName(t *testing.T) {
	s := api.Script{Pads: "\x01\x02\x03\x04"}
	for _, c := range [][3]int{{0, 0, 1}, {0, 1, 2}, {1, 0, 3}, {1, 1, 4}, {2, 0, 0}, {2, 1, 0}, {1, 2, 0}, {1, -1, 0}, {-1, 0, 0}, {-1, 3, 0}, {0, 2, 0}, {0, 3, 0}} {
		if got := Pad(s, c[0], c[1]); int(got) != c[2] {
			t.Errorf("Pad(%d, %d) = %d, want %d", c[0], c[1], got, c[2])
		}
	}
	cut := api.Script{Pads: "\x01\x02\x03"} // no script that may be, yet its one whole frame is there
	if one, two, none := Pad(cut, 0, 0), Pad(cut, 0, 1), Pad(cut, 1, 1); one != 1 || two != 2 || none != 0 {
		t.Errorf("Pad of three octets: %d, %d and %d", one, two, none)
	}
}

func TestReset(t *testing.T) {
	numbers := append(farNumbers(), 0, 1, 2, 3, 4, 5)
	for _, resets := range listsOf(-1, 0, 1, 2, 4, math.MaxInt) {
		s := api.Script{Pads: "abcdefghij", Resets: resets}
		for _, frame := range numbers {
			want := false
			for _, one := range resets {
				want = want || one == frame
			}
			if got := Reset(s, frame); got != want {
				t.Fatalf("Reset(%d) of %v = %v", frame, resets, got)
			}
		}
	}
}

func TestResetOfManyFrames(t *testing.T) {
	var odd []int
	for frame := 1; frame < 600; frame += 2 {
		odd = append(odd, frame)
	}
	s := api.Script{Pads: octets(1200), Resets: odd}
	for frame := -2; frame < 605; frame++ {
		if got, want := Reset(s, frame), frame > 0 && frame < 600 && frame%2 == 1; got != want {
			t.Errorf("Reset(%d) = %v", frame, got)
		}
	}
}

func TestWhatIsHandedInIsNotChanged(t *testing.T) {
	for _, s := range append(accepted(), refused()...) {
		before := copied(s)
		Frames(s)
		Check(s)
		Pad(s, 0, 0)
		Reset(s, 0)
		Same(s, s)
		if !equal(s, before) {
			t.Errorf("resets %v became %v", before.Resets, s.Resets)
		}
	}
}
