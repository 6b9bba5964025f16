package cells

import (
	"math"
	"slices"
	"testing"

	"seepage/api"
)

// edges is numbers at which ranges begin to be, or not to be, and numbers far off.
func edges() []int {
	return []int{math.MinInt, math.MinInt32, -65536, -2, -1, 0, 1, 2, 3, 65534, 65535, 65536, 65537, 131072, math.MaxInt32, math.MaxInt - 1, math.MaxInt}
}

// rangesOf is all ranges from one of some numbers to one of them, also backward ones.
func rangesOf(numbers []int) []api.Range {
	var l []api.Range
	for _, from := range numbers {
		for _, to := range numbers {
			l = append(l, api.Range{From: from, To: to})
		}
	}
	return l
}

// listsOf is all lists of none to three of some ranges.
func listsOf(some []api.Range) [][]api.Range {
	all := [][]api.Range{nil, {}}
	last := [][]api.Range{{}}
	for range 3 {
		var longer [][]api.Range
		for _, l := range last {
			for _, r := range some {
				longer = append(longer, append(slices.Clone(l), r))
			}
		}
		all = append(all, longer...)
		last = longer
	}
	return all
}

// goodAlone is what the words ask of a range without regard to others.
func goodAlone(r api.Range) bool {
	if r.From < 0 || r.To < r.From {
		return false
	}
	return r.To < 65536
}

// mayBe is the words on ranges, one after the other.
func mayBe(l []api.Range) bool {
	for i, r := range l {
		if !goodAlone(r) || i > 0 && r.From-l[i-1].To < 2 {
			return false
		}
	}
	return true
}

func errorIf(bad bool) api.Errno {
	if bad {
		return api.ErrArg
	}
	return api.OK
}

// P2.1

func TestCheckOfLists(t *testing.T) {
	low := listsOf(rangesOf([]int{-1, 0, 1, 2, 3, 4}))
	high := listsOf(rangesOf([]int{65531, 65532, 65533, 65534, 65535, 65536}))
	for _, l := range append(low, high...) {
		before := slices.Clone(l)
		if got, want := Check(l), errorIf(!mayBe(l)); got != want {
			t.Fatalf("Check(%v) = %d, want %d", l, got, want)
		}
		if !slices.Equal(before, l) {
			t.Fatalf("Check changed %v to %v", before, l)
		}
	}
}

func TestCheckAtTheEdges(t *testing.T) {
	for _, r := range rangesOf(edges()) {
		for _, l := range [][]api.Range{{r}, {r, {From: 9, To: 9}}, {{From: 9, To: 9}, r}} {
			if got, want := Check(l), errorIf(!mayBe(l)); got != want {
				t.Errorf("Check(%v) = %d, want %d", l, got, want)
			}
		}
	}
}

func TestCheckByName(t *testing.T) {
	for _, c := range []struct {
		l    []api.Range
		want api.Errno
	}{
		{nil, api.OK},
		{[]api.Range{}, api.OK},
		{[]api.Range{{From: 0, To: 0}}, api.OK},
		{[]api.Range{{From: 0, To: 65535}}, api.OK},
		{[]api.Range{{From: 65535, To: 65535}}, api.OK},
		{[]api.Range{{From: 0, To: 3}, {From: 5, To: 6}}, api.OK},
		{[]api.Range{{From: 0, To: 3}, {From: 4, To: 6}}, api.ErrArg}, // they touch
		{[]api.Range{{From: 0, To: 3}, {From: 3, To: 6}}, api.ErrArg}, // they overlap
		{[]api.Range{{From: 5, To: 6}, {From: 0, To: 3}}, api.ErrArg}, // they fall
		{[]api.Range{{From: 5, To: 6}, {From: 5, To: 6}}, api.ErrArg}, // the same twice
		{[]api.Range{{From: 5, To: 4}}, api.ErrArg},
		{[]api.Range{{From: -1, To: 4}}, api.ErrArg},
		{[]api.Range{{From: 5, To: 65536}}, api.ErrArg},
		{[]api.Range{{From: 65536, To: 65536}}, api.ErrArg},
	} {
		if got := Check(c.l); got != c.want {
			t.Errorf("Check(%v) = %d, want %d", c.l, got, c.want)
		}
	}
}

func TestInWhateverTheRangesAre(t *testing.T) {
	numbers := []int{-2, -1, 0, 1, 3, 4}
	for _, l := range listsOf(rangesOf(numbers)) {
		before := slices.Clone(l)
		for at := -4; at <= 6; at++ {
			want := false
			for _, r := range l {
				for place := r.From; place <= r.To; place++ {
					want = want || place == at
				}
			}
			if got := In(l, at); got != want {
				t.Fatalf("In(%v, %d) = %v", l, at, got)
			}
		}
		if !slices.Equal(before, l) {
			t.Fatalf("In changed %v to %v", before, l)
		}
	}
}

func TestInFarOff(t *testing.T) {
	whole := []api.Range{{From: math.MinInt, To: math.MaxInt}}
	backward := []api.Range{{From: math.MaxInt, To: math.MinInt}}
	least := []api.Range{{From: math.MinInt, To: math.MinInt}}
	greatest := []api.Range{{From: math.MaxInt, To: math.MaxInt}}
	good := []api.Range{{From: 0, To: 65535}}
	for _, at := range edges() {
		if !In(whole, at) {
			t.Errorf("%d is not in all places", at)
		}
		if In(backward, at) || In(nil, at) || In([]api.Range{}, at) {
			t.Errorf("%d is in no place", at)
		}
		if In(least, at) != (at == math.MinInt) || In(greatest, at) != (at == math.MaxInt) {
			t.Errorf("%d is in the least, or the greatest place", at)
		}
		if In(good, at) != (at >= 0 && at <= 65535) {
			t.Errorf("In all that may be, %d: %v", at, In(good, at))
		}
	}
}

// placesOf is which of the places from least on are in ranges.
func placesOf(l []api.Range, least, many int) []int {
	in := make([]int, many)
	for _, r := range l {
		for at := r.From; at <= r.To; at++ {
			in[at-least] = 1
		}
	}
	return in
}

func TestTidyOfLists(t *testing.T) {
	for _, least := range []int{0, 65530} {
		var good []api.Range
		for from := range 6 {
			for to := from; to < 6; to++ {
				good = append(good, api.Range{From: least + from, To: least + to})
			}
		}
		for _, l := range listsOf(good) {
			before := slices.Clone(l)
			got, e := Tidy(l)
			if e != api.OK || !mayBe(got) || !slices.Equal(placesOf(got, least, 6), placesOf(l, least, 6)) {
				t.Fatalf("Tidy(%v) = %v, %d", l, got, e)
			}
			if !slices.Equal(before, l) {
				t.Fatalf("Tidy changed %v to %v", before, l)
			}
			if again, e := Tidy(got); e != api.OK || !slices.Equal(again, got) {
				t.Fatalf("Tidy twice of %v = %v, %d", l, again, e)
			}
		}
	}
}

func TestTidyRefuses(t *testing.T) {
	for _, r := range rangesOf(edges()) {
		for _, l := range [][]api.Range{{r}, {r, {From: 9, To: 9}}, {{From: 9, To: 9}, r}, {{From: 0, To: 65535}, r, {From: 2, To: 3}}} {
			got, e := Tidy(l)
			if want := errorIf(!goodAlone(r)); e != want {
				t.Errorf("Tidy(%v) = %v, %d, want %d", l, got, e, want)
			}
			if e != api.OK && len(got) != 0 {
				t.Errorf("Tidy(%v) gives %v beside an error", l, got)
			}
		}
	}
}

func TestTidyByName(t *testing.T) {
	for _, c := range []struct{ l, want []api.Range }{
		{nil, nil},
		{[]api.Range{}, nil},
		{[]api.Range{{From: 4, To: 6}, {From: 0, To: 3}}, []api.Range{{From: 0, To: 6}}},
		{[]api.Range{{From: 5, To: 6}, {From: 0, To: 3}}, []api.Range{{From: 0, To: 3}, {From: 5, To: 6}}},
		{[]api.Range{{From: 0, To: 9}, {From: 1, To: 2}, {From: 4, To: 5}}, []api.Range{{From: 0, To: 9}}}, // a short one doesn't end a long one
		{[]api.Range{{From: 7, To: 7}, {From: 7, To: 7}}, []api.Range{{From: 7, To: 7}}},
		{[]api.Range{{From: 7, To: 9}, {From: 7, To: 8}}, []api.Range{{From: 7, To: 9}}},
		{[]api.Range{{From: 65535, To: 65535}, {From: 0, To: 65534}}, []api.Range{{From: 0, To: 65535}}},
	} {
		got, e := Tidy(c.l)
		if e != api.OK || !slices.Equal(got, c.want) {
			t.Errorf("Tidy(%v) = %v, %d, want %v", c.l, got, e, c.want)
		}
	}
}

func TestTidyOfManyRanges(t *testing.T) {
	var apart, touching []api.Range
	for at := 65534; at >= 0; at -= 2 {
		apart = append(apart, api.Range{From: at, To: at})
		touching = append(touching, api.Range{From: at, To: at + 1})
	}
	want := slices.Clone(apart)
	slices.Reverse(want)
	if got, e := Tidy(apart); e != api.OK || !slices.Equal(got, want) || Check(got) != api.OK {
		t.Errorf("Tidy of each second place: %d ranges, %d", len(got), e)
	}
	if got, e := Tidy(touching); e != api.OK || !slices.Equal(got, []api.Range{{From: 0, To: 65535}}) {
		t.Errorf("Tidy of all places in pairs = %v, %d", got, e)
	}
}
