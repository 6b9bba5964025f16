package cells

import (
	"math"
	"slices"
	"strings"
	"testing"

	"seepage/api"
)

// P2.2

// made is cells made slowly: each one's value is looked up, and each range is asked.
func made(n int, values string, secret []api.Range) []api.Byte {
	var l []api.Byte
	for at := range n {
		b := api.Byte{}
		if at < len(values) {
			b.V = values[at]
		}
		for _, r := range secret {
			if at >= r.From && at <= r.To {
				b.S = true
			}
		}
		l = append(l, b)
	}
	return l
}

func TestMake(t *testing.T) {
	var may [][]api.Range
	for _, l := range listsOf(rangesOf([]int{0, 1, 2, 3, 4, 5, 6, 65535})) {
		if mayBe(l) {
			may = append(may, l)
		}
	}
	for _, values := range []string{"", "\x05", "\xff\x00", "ab\x80", "\xc3\xa9\xff\x00\x01"} {
		for n := len(values); n <= 6; n++ {
			for _, secret := range may {
				before := slices.Clone(secret)
				got, e := Make(n, values, secret)
				if want := made(n, values, secret); e != api.OK || !slices.Equal(got, want) {
					t.Fatalf("Make(%d, %q, %v) = %v, %d, want %v", n, values, secret, got, e, want)
				}
				if !slices.Equal(before, secret) {
					t.Fatalf("Make changed %v to %v", before, secret)
				}
			}
		}
	}
}

func TestMakeOfTheExample(t *testing.T) {
	got, e := Make(3, "\x05", []api.Range{{From: 1, To: 1}})
	if want := []api.Byte{{V: 5}, {S: true}, {}}; e != api.OK || !slices.Equal(got, want) {
		t.Errorf("Make of 3 = %v, %d", got, e)
	}
}

func TestMakeAtTheLimit(t *testing.T) {
	values := strings.Repeat("\x00\x7f\x80\xff", 16384)
	for _, secret := range [][]api.Range{nil, {{From: 0, To: 65535}}, {{From: 0, To: 0}, {From: 300, To: 400}, {From: 65535, To: 65535}}} {
		for _, c := range []struct {
			n      int
			values string
		}{{65535, values[:65535]}, {65536, values}, {65536, ""}, {65536, values[:65535]}} {
			got, e := Make(c.n, c.values, secret)
			if e != api.OK || !slices.Equal(got, made(c.n, c.values, secret)) {
				t.Errorf("Make of %d with %d values, %v: %d cells, %d", c.n, len(c.values), secret, len(got), e)
			}
		}
	}
}

func TestMakeRefuses(t *testing.T) {
	backward := []api.Range{{From: 2, To: 1}}
	touching := []api.Range{{From: 0, To: 1}, {From: 2, To: 3}}
	far := []api.Range{{From: 0, To: 65536}}
	below := []api.Range{{From: -1, To: 0}}
	for _, c := range []struct {
		n      int
		values string
		secret []api.Range
	}{
		{-1, "", nil},
		{math.MinInt, "", nil},
		{math.MinInt32, "", nil},
		{65537, "", nil},
		{131072, "", nil},
		{math.MaxInt32, "", nil},
		{math.MaxInt, "", nil},
		{0, "a", nil},
		{1, "ab", nil},
		{65536, strings.Repeat("a", 65537), nil},
		{9, "", backward},
		{9, "", touching},
		{9, "", far},
		{9, "", below},
		{0, "", backward},
		{0, "", far},
		{65536, "", far},
		{1, "", []api.Range{{From: 0, To: 0}, {From: 9, To: 8}}}, // behind the last cell
		{-1, "a", backward},
	} {
		got, e := Make(c.n, c.values, c.secret)
		if e != api.ErrArg || len(got) != 0 {
			t.Errorf("Make(%d, %d values, %v) = %d cells, %d", c.n, len(c.values), c.secret, len(got), e)
		}
	}
	if _, e := Make(2, "\xc3\xa9", nil); e != api.OK {
		t.Errorf("Make of two cells with two octets: %d", e)
	}
	if _, e := Make(1, "\xc3\xa9", nil); e != api.ErrArg {
		t.Errorf("Make of one cell with two octets: %d", e)
	}
}

// shortCells is all lists of none to five cells whose values follow their places, in all ways to be secret.
func shortCells() [][]api.Byte {
	all := [][]api.Byte{nil, {}}
	for n := 1; n <= 5; n++ {
		for which := range 1 << n {
			l := make([]api.Byte, n)
			for at := range l {
				l[at] = api.Byte{V: uint8(255 - 60*at), S: which>>at&1 == 1}
			}
			all = append(all, l)
		}
	}
	return all
}

func TestValuesAndErase(t *testing.T) {
	for _, l := range shortCells() {
		before := slices.Clone(l)
		values, low := Values(l), Erase(l)
		if len(values) != len(l) || len(low) != len(l) {
			t.Fatalf("of %v: %d values, and %d low", l, len(values), len(low))
		}
		for at, b := range l {
			if values[at] != b.V || low[at] != (api.Byte{V: b.V}) {
				t.Errorf("of %v: values %q, low %v", l, values, low)
			}
		}
		if !slices.Equal(before, l) {
			t.Fatalf("%v became %v", before, l)
		}
	}
}

func TestValuesOfAllOctets(t *testing.T) {
	var l []api.Byte
	for v := range 256 {
		l = append(l, api.Byte{V: uint8(v), S: v%3 == 0})
	}
	values := Values(l)
	for v := range 256 {
		if int(values[v]) != v {
			t.Errorf("value %d is told as %d", v, values[v])
		}
	}
	if back, e := Make(256, values, Secrets(l)); e != api.OK || !slices.Equal(back, l) {
		t.Errorf("all octets made again: %v, %d", back, e)
	}
}

func TestSecrets(t *testing.T) {
	for _, l := range shortCells() {
		before := slices.Clone(l)
		got := Secrets(l)
		if !mayBe(got) || !slices.Equal(made(len(l), Values(l), got), l) {
			t.Errorf("Secrets(%v) = %v", l, got)
		}
		for _, r := range got {
			if r.To >= len(l) {
				t.Errorf("Secrets(%v) = %v", l, got)
			}
		}
		for at := range l {
			l[at].V ^= 255 // of what values they are tells nothing
		}
		if !slices.Equal(Secrets(l), got) {
			t.Errorf("Secrets(%v) = %v with other values", l, Secrets(l))
		}
		for at := range l {
			l[at].V ^= 255
		}
		if !slices.Equal(before, l) {
			t.Fatalf("%v became %v", before, l)
		}
	}
}

func TestSecretsAtTheLimit(t *testing.T) {
	var each []api.Range
	for at := 1; at < 65536; at += 2 {
		each = append(each, api.Range{From: at, To: at})
	}
	for _, secret := range [][]api.Range{nil, {{From: 0, To: 65535}}, {{From: 0, To: 65533}, {From: 65535, To: 65535}}, each} {
		l, e := Make(65536, "", secret)
		if got := Secrets(l); e != api.OK || !slices.Equal(got, secret) {
			t.Errorf("Secrets of %d ranges: %d, %d", len(secret), len(got), e)
		}
	}
}

// P2.3

// nowhere is places of which there is no cell in a list of so many.
func nowhere(many int) []int {
	return []int{many, many + 1, 2*many + 2, -1, -2, -many - 1, 65536, 65537, math.MinInt, math.MinInt32, math.MaxInt32, math.MaxInt}
}

func TestLoad(t *testing.T) {
	for _, l := range shortCells() {
		for at, want := range l {
			if got, e := Load(l, at); got != want || e != api.OK {
				t.Errorf("Load(%v, %d) = %v, %d", l, at, got, e)
			}
		}
		for _, at := range nowhere(len(l)) {
			if got, e := Load(l, at); got != (api.Byte{}) || e != api.ErrNone {
				t.Errorf("Load(%v, %d) = %v, %d", l, at, got, e)
			}
		}
	}
}

func TestStore(t *testing.T) {
	for _, l := range shortCells() {
		before := slices.Clone(l)
		for at := range l {
			for _, b := range []api.Byte{{}, {V: 9}, {S: true}, {V: 255, S: true}} {
				want := slices.Clone(l)
				want[at] = b
				if got, e := Store(l, at, b); !slices.Equal(got, want) || e != api.OK {
					t.Errorf("Store(%v, %d, %v) = %v, %d", l, at, b, got, e)
				}
			}
		}
		for _, at := range nowhere(len(l)) {
			if got, e := Store(l, at, api.Byte{V: 77, S: true}); !slices.Equal(got, l) || e != api.ErrNone {
				t.Errorf("Store(%v, %d) = %v, %d", l, at, got, e)
			}
		}
		if !slices.Equal(before, l) {
			t.Fatalf("%v became %v", before, l)
		}
	}
}

func TestLoadAndStoreAtTheLimit(t *testing.T) {
	l, _ := Make(65536, "", nil)
	b := api.Byte{V: 200, S: true}
	for _, at := range []int{0, 255, 32768, 65534, 65535} {
		m, e := Store(l, at, b)
		got, f := Load(m, at)
		if e != api.OK || f != api.OK || got != b || !slices.Equal(Secrets(m), []api.Range{{From: at, To: at}}) {
			t.Errorf("at %d: %v, %d, %d, secret %v", at, got, e, f, Secrets(m))
		}
	}
	if Secrets(l) != nil {
		t.Errorf("what was handed in became secret at %v", Secrets(l))
	}
}

// P2.4

func TestAlikeOneByOne(t *testing.T) {
	short := [][]api.Byte{nil, {}}
	four := []api.Byte{{}, {V: 1}, {S: true}, {V: 1, S: true}}
	for _, a := range four {
		short = append(short, []api.Byte{a})
		for _, b := range four {
			short = append(short, []api.Byte{a, b})
			for _, c := range four {
				short = append(short, []api.Byte{a, b, c})
			}
		}
	}
	for _, a := range short {
		for _, b := range short {
			want := len(a) == len(b)
			for at := 0; want && at < len(a); at++ {
				want = a[at].S == b[at].S && (a[at].S || a[at].V == b[at].V)
			}
			if got := Alike(a, b); got != want {
				t.Errorf("Alike(%v, %v) = %v", a, b, got)
			}
		}
	}
}

func TestAlikeAtTheLimit(t *testing.T) {
	l, _ := Make(65536, strings.Repeat("\x01", 65536), []api.Range{{From: 100, To: 200}})
	m, _ := Make(65536, strings.Repeat("\x01", 65536), []api.Range{{From: 100, To: 200}})
	for at := 100; at <= 200; at++ {
		m[at].V = uint8(at)
	}
	if !Alike(l, m) {
		t.Error("cells that differ in secrets' values are not alike")
	}
	if Alike(l, m[:65535]) || Alike(l[:65535], m) {
		t.Error("cells that aren't as many are alike")
	}
	for _, at := range []int{0, 99, 201, 65535} {
		m[at].V = 2
		if Alike(l, m) || Alike(m, l) {
			t.Errorf("cells that differ at %d are alike", at)
		}
		m[at].V = 1
	}
}

// P2.5

func TestWhatIsStoredIsLoadedAndNoOtherCellChanges(t *testing.T) {
	for _, l := range shortCells() {
		for at := range l {
			for _, b := range []api.Byte{{V: 3}, {V: 3, S: true}} {
				m, _ := Store(l, at, b)
				if len(m) != len(l) {
					t.Fatalf("of %d cells became %d", len(l), len(m))
				}
				for other, was := range l {
					want := was
					if other == at {
						want = b
					}
					if got, e := Load(m, other); got != want || e != api.OK {
						t.Errorf("%v stored at %d of %v: at %d %v, %d", b, at, l, other, got, e)
					}
				}
			}
		}
	}
}

func TestWhatIsAlikeStaysAlike(t *testing.T) {
	for _, a := range shortCells() {
		b := slices.Clone(a)
		for at := range b {
			if b[at].S {
				b[at].V += 7
			}
		}
		for at := -1; at <= len(a); at++ {
			for _, c := range []struct{ x, y api.Byte }{
				{api.Byte{V: 4}, api.Byte{V: 4}},
				{api.Byte{V: 4, S: true}, api.Byte{V: 4, S: true}},
				{api.Byte{V: 4, S: true}, api.Byte{V: 90, S: true}},
			} {
				m, e := Store(a, at, c.x)
				n, f := Store(b, at, c.y)
				if !Alike(m, n) || e != f || !slices.Equal(Secrets(m), Secrets(n)) {
					t.Errorf("%v and %v at %d: %v, %d, and %v, %d", a, b, at, m, e, n, f)
				}
			}
		}
	}
}

func TestWhatIsAnsweredIsNewMemory(t *testing.T) {
	l := []api.Byte{{V: 1}, {V: 2, S: true}, {V: 3}}
	ranges := []api.Range{{From: 1, To: 1}, {From: 5, To: 6}}
	before, rangesBefore := slices.Clone(l), slices.Clone(ranges)
	stored, _ := Store(l, 0, api.Byte{V: 9})
	refused, _ := Store(l, 3, api.Byte{V: 9})
	tidy, _ := Tidy(ranges)
	for _, answer := range [][]api.Byte{stored, refused, Erase(l)} {
		for at := range answer {
			answer[at] = api.Byte{V: 77, S: true}
		}
	}
	for i := range tidy {
		tidy[i] = api.Range{From: 40, To: 41}
	}
	if !slices.Equal(l, before) || !slices.Equal(ranges, rangesBefore) {
		t.Errorf("what was handed in became %v, and %v", l, ranges)
	}
}
