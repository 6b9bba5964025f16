package policy

import (
	"fmt"
	"math"
	"slices"
	"strings"
	"testing"

	"seepage/api"
)

// fits is what the words ask of ranges in so many cells, one after the other.
func fits(l []api.Range, size int) bool {
	for i, r := range l {
		if r.From < 0 || r.To < r.From || r.To > size-1 {
			return false
		}
		if i > 0 && r.From-l[i-1].To < 2 {
			return false
		}
	}
	return true
}

func mayBe(p api.Policy) bool { return fits(p.Ram, 2048) && fits(p.Save, 8192) }

func errorIf(bad bool) api.Errno {
	if bad {
		return api.ErrArg
	}
	return api.OK
}

// allPorts is all ways in which ports are secret.
func allPorts() [][2]bool {
	return [][2]bool{{false, false}, {true, false}, {false, true}, {true, true}}
}

// listsOf is all lists of none to two ranges from one of some numbers to one of them, also backward ones.
func listsOf(numbers ...int) [][]api.Range {
	var some []api.Range
	for _, from := range numbers {
		for _, to := range numbers {
			some = append(some, api.Range{From: from, To: to})
		}
	}
	all := [][]api.Range{nil, {}}
	for _, a := range some {
		all = append(all, []api.Range{a})
		for _, b := range some {
			all = append(all, []api.Range{a, b})
		}
	}
	return all
}

// fitting is the lists that may be.
func fitting(all [][]api.Range, size int) [][]api.Range {
	return slices.DeleteFunc(slices.Clone(all), func(l []api.Range) bool { return !fits(l, size) })
}

// ofLists is policies with one of some lists for each memory, and all ports.
func ofLists(ram, save [][]api.Range) []api.Policy {
	var all []api.Policy
	for _, ports := range allPorts() {
		for _, r := range ram {
			for _, s := range save {
				all = append(all, api.Policy{Ports: ports, Ram: r, Save: s})
			}
		}
	}
	return all
}

// copied is a policy that shares no memory with one.
func copied(p api.Policy) api.Policy {
	return api.Policy{Ports: p.Ports, Ram: slices.Clone(p.Ram), Save: slices.Clone(p.Save)}
}

// equal tells by words of its own whether two policies have the same ports, and ranges.
func equal(a, b api.Policy) bool {
	same := func(l, m []api.Range) bool {
		if len(l) != len(m) {
			return false
		}
		for i := range l {
			if l[i].From != m[i].From || l[i].To != m[i].To {
				return false
			}
		}
		return true
	}
	return a.Ports[0] == b.Ports[0] && a.Ports[1] == b.Ports[1] && same(a.Ram, b.Ram) && same(a.Save, b.Save)
}

// places is which of so many places from least on are in ranges.
func places(l []api.Range, least, many int) []bool {
	in := make([]bool, many)
	for at := range in {
		for _, r := range l {
			in[at] = in[at] || r.From <= least+at && least+at <= r.To
		}
	}
	return in
}

// below tells whether all that is so in one is so in another one.
func below(less, more []bool) bool {
	for i := range less {
		if less[i] && !more[i] {
			return false
		}
	}
	return true
}

// refused is policies that may not be, each one by one thing.
func refused() []api.Policy {
	var all []api.Policy
	for _, l := range [][]api.Range{
		{{From: -1, To: 0}},
		{{From: -2, To: -1}},
		{{From: 2, To: 1}},
		{{From: 0, To: 1}, {From: 2, To: 3}}, // they touch
		{{From: 0, To: 2}, {From: 2, To: 3}}, // they overlap
		{{From: 4, To: 5}, {From: 0, To: 1}}, // they fall
		{{From: 4, To: 4}, {From: 4, To: 4}},
		{{From: 0, To: 8192}},
		{{From: 8192, To: 8192}},
		{{From: 0, To: 1}, {From: 3, To: 65535}},
		{{From: 0, To: 65536}},
		{{From: 0, To: math.MaxInt}},
		{{From: math.MaxInt, To: math.MaxInt}},
		{{From: math.MinInt, To: math.MaxInt}},
		{{From: math.MinInt, To: 0}},
		{{From: math.MaxInt, To: math.MinInt}},
	} {
		all = append(all, api.Policy{Ram: l}, api.Policy{Save: l}, api.Policy{Ports: [2]bool{true, true}, Ram: l, Save: l})
	}
	for _, l := range [][]api.Range{{{From: 0, To: 2048}}, {{From: 2048, To: 2048}}, {{From: 0, To: 1}, {From: 4096, To: 8191}}} {
		all = append(all, api.Policy{Ram: l}, api.Policy{Ports: [2]bool{true, false}, Ram: l, Save: l})
	}
	return all
}

// everyOther is the longest list of ranges that so many cells may have.
func everyOther(size int) []api.Range {
	var l []api.Range
	for at := 0; at < size; at += 2 {
		l = append(l, api.Range{From: at, To: at})
	}
	return l
}

// P3.1

func TestCheck(t *testing.T) {
	some := [][]api.Range{nil, {{From: 0, To: 8191}}, {{From: 1, To: 1}}, {{From: 1, To: 0}}}
	ram := listsOf(-1, 0, 1, 2, 3, 2045, 2046, 2047, 2048)
	save := listsOf(-1, 0, 1, 2, 2047, 2048, 8189, 8190, 8191, 8192)
	far := listsOf(math.MinInt, math.MinInt32, -65536, 5, 65535, 65536, math.MaxInt32, math.MaxInt)
	for _, p := range slices.Concat(ofLists(ram, some), ofLists(some, save), ofLists(far, some), ofLists(some, far)) {
		before := copied(p)
		if got, want := Check(p), errorIf(!mayBe(p)); got != want {
			t.Fatalf("Check(%v) = %d, want %d", p, got, want)
		}
		if !equal(p, before) {
			t.Fatalf("Check changed %v to %v", before, p)
		}
	}
}

func TestCheckByName(t *testing.T) {
	for _, p := range []api.Policy{
		{},
		{Ports: [2]bool{true, true}},
		{Ram: []api.Range{}, Save: []api.Range{}},
		{Ram: []api.Range{{From: 0, To: 2047}}, Save: []api.Range{{From: 0, To: 8191}}},
		{Ram: []api.Range{{From: 2047, To: 2047}}, Save: []api.Range{{From: 8191, To: 8191}}},
		{Ram: everyOther(2048), Save: everyOther(8192)},
	} {
		if e := Check(p); e != api.OK {
			t.Errorf("Check(%v) = %d", p, e)
		}
	}
	for _, p := range refused() {
		if e := Check(p); e != api.ErrArg {
			t.Errorf("Check(%v) = %d", p, e)
		}
	}
}

// printed is a policy's text, as the words have it.
func printed(p api.Policy) string {
	s := ""
	if p.Ports[0] {
		s += "port 1\n"
	}
	if p.Ports[1] {
		s += "port 2\n"
	}
	for _, r := range p.Ram {
		s += fmt.Sprintf("ram %04x-%04x\n", r.From, r.To)
	}
	for _, r := range p.Save {
		s += fmt.Sprintf("save %04x-%04x\n", r.From, r.To)
	}
	return s
}

func TestPrint(t *testing.T) {
	ram := fitting(listsOf(0, 9, 10, 15, 16, 255, 256, 2046, 2047), 2048)
	save := fitting(listsOf(0, 15, 171, 4095, 4096, 8191), 8192)
	for _, p := range ofLists(ram, save) {
		before := copied(p)
		if got, e := Print(p); got != printed(p) || e != api.OK {
			t.Fatalf("Print(%v) = %q, %d", p, got, e)
		}
		if !equal(p, before) {
			t.Fatalf("Print changed %v to %v", before, p)
		}
	}
}

func TestPrintOfEachPlace(t *testing.T) {
	for at := range 8192 {
		one := []api.Range{{From: at, To: at}}
		p := api.Policy{Save: one}
		if at < 2048 {
			p.Ram = one
		}
		if got, e := Print(p); got != printed(p) || e != api.OK {
			t.Fatalf("Print(%v) = %q, %d", p, got, e)
		}
	}
}

func TestPrintByName(t *testing.T) {
	for want, p := range map[string]api.Policy{
		"":                         {},
		"port 1\nport 2\n":         {Ports: [2]bool{true, true}},
		"port 1\nram 0010-001f\n":  {Ports: [2]bool{true, false}, Ram: []api.Range{{From: 16, To: 31}}},
		"port 2\nsave 0000-1fff\n": {Ports: [2]bool{false, true}, Save: []api.Range{{From: 0, To: 8191}}},
		"ram 0000-0000\nram 07ff-07ff\nsave 0abc-0def\nsave 1234-1234\n": {
			Ram:  []api.Range{{From: 0, To: 0}, {From: 2047, To: 2047}},
			Save: []api.Range{{From: 2748, To: 3567}, {From: 4660, To: 4660}},
		},
	} {
		if got, e := Print(p); got != want || e != api.OK {
			t.Errorf("Print(%v) = %q, %d", p, got, e)
		}
	}
	most := api.Policy{Ports: [2]bool{true, true}, Ram: everyOther(2048), Save: everyOther(8192)}
	if got, e := Print(most); got != printed(most) || e != api.OK {
		t.Errorf("Print of the most ranges: %d octets, %d", len(got), e)
	}
}

func TestPrintRefuses(t *testing.T) {
	for _, p := range refused() {
		if got, e := Print(p); got != "" || e != api.ErrArg {
			t.Errorf("Print(%v) = %q, %d", p, got, e)
		}
	}
}

func TestSame(t *testing.T) {
	some := [][]api.Range{nil, {}, {{From: 0, To: 0}}, {{From: 0, To: 1}}, {{From: 1, To: 1}}, {{From: 0, To: 0}, {From: 1, To: 1}}, {{From: 1, To: 1}, {From: 0, To: 0}}, {{From: 9, To: math.MaxInt}}}
	all := ofLists(some, some)
	for _, a := range all {
		for _, b := range all {
			if got, want := Same(a, copied(b)), equal(a, b); got != want {
				t.Fatalf("Same(%v, %v) = %v", a, b, got)
			}
		}
	}
}

// P3.3

// secret is whether a policy has something, by the words.
func secret(p api.Policy, kind, at int) bool {
	switch kind {
	case 0:
		return at == 0 && p.Ports[0] || at == 1 && p.Ports[1]
	case 1:
		return places(p.Ram, at, 1)[0]
	case 2:
		return places(p.Save, at, 1)[0]
	}
	return false
}

func TestSecret(t *testing.T) {
	numbers := []int{math.MinInt, math.MinInt32, -65536, -3, -2, -1, 0, 1, 2, 3, 4, 5, 6, 2046, 2047, 2048, 8190, 8191, 8192, 65535, 65536, math.MaxInt32, math.MaxInt}
	lists := [][]api.Range{nil, {{From: 0, To: 0}}, {{From: 1, To: 2}, {From: 5, To: 2047}}, {{From: 4, To: 8191}}, {{From: 6, To: 3}}, {{From: 3, To: 5}, {From: -2, To: 1}}, {{From: math.MinInt, To: math.MaxInt}}}
	for _, p := range append(ofLists(lists, lists), refused()...) {
		before := copied(p)
		for _, kind := range []int{math.MinInt, -1, 0, 1, 2, 3, 4, 256, math.MaxInt} {
			for _, at := range numbers {
				if got, want := Secret(p, kind, at), secret(p, kind, at); got != want {
					t.Fatalf("Secret(%v, %d, %d) = %v", p, kind, at, got)
				}
			}
		}
		if !equal(p, before) {
			t.Fatalf("Secret changed %v to %v", before, p)
		}
	}
}

func TestNone(t *testing.T) {
	lists := [][]api.Range{nil, {}, {{From: 0, To: 0}}, {{From: 7, To: 8}, {From: 10, To: 11}}, {{From: 2, To: 1}}}
	for _, p := range ofLists(lists, lists) {
		want := !p.Ports[0] && !p.Ports[1] && len(p.Ram) == 0 && len(p.Save) == 0
		if got := None(p); got != want {
			t.Errorf("None(%v) = %v", p, got)
		}
	}
}

// joinable is policies that may be, at both ends of both memories, and where these ends are.
func joinable() (all []api.Policy, leastRam, leastSave int) {
	ram := [][]api.Range{nil, {}, {{From: 2043, To: 2043}}, {{From: 2044, To: 2045}}, {{From: 2043, To: 2047}}, {{From: 2043, To: 2044}, {From: 2046, To: 2047}}}
	save := [][]api.Range{nil, {{From: 8191, To: 8191}}, {{From: 8187, To: 8188}, {From: 8190, To: 8190}}, {{From: 8189, To: 8189}}}
	return ofLists(ram, save), 2043, 8187
}

func TestJoinAndCovers(t *testing.T) {
	all, leastRam, leastSave := joinable()
	for _, a := range all {
		for _, b := range all {
			beforeA, beforeB := copied(a), copied(b)
			j, e := Join(a, b)
			if e != api.OK || !mayBe(j) || j.Ports != [2]bool{a.Ports[0] || b.Ports[0], a.Ports[1] || b.Ports[1]} {
				t.Fatalf("Join(%v, %v) = %v, %d", a, b, j, e)
			}
			ramA, ramB, ramJ := places(a.Ram, leastRam, 5), places(b.Ram, leastRam, 5), places(j.Ram, leastRam, 5)
			saveA, saveB, saveJ := places(a.Save, leastSave, 5), places(b.Save, leastSave, 5), places(j.Save, leastSave, 5)
			for i := range 5 {
				if ramJ[i] != (ramA[i] || ramB[i]) || saveJ[i] != (saveA[i] || saveB[i]) {
					t.Fatalf("Join(%v, %v) = %v", a, b, j)
				}
			}
			want := below(b.Ports[:], a.Ports[:]) && below(ramB, ramA) && below(saveB, saveA)
			if got := Covers(a, b); got != want {
				t.Fatalf("Covers(%v, %v) = %v", a, b, got)
			}
			if !equal(a, beforeA) || !equal(b, beforeB) {
				t.Fatalf("%v and %v became %v and %v", beforeA, beforeB, a, b)
			}
		}
	}
}

func TestJoinByName(t *testing.T) {
	a := api.Policy{Ports: [2]bool{false, true}, Ram: []api.Range{{From: 10, To: 20}}, Save: []api.Range{{From: 0, To: 0}, {From: 2, To: 2}}}
	b := api.Policy{Ram: []api.Range{{From: 0, To: 9}, {From: 15, To: 30}}, Save: []api.Range{{From: 1, To: 1}, {From: 8191, To: 8191}}}
	want := api.Policy{Ports: [2]bool{false, true}, Ram: []api.Range{{From: 0, To: 30}}, Save: []api.Range{{From: 0, To: 2}, {From: 8191, To: 8191}}}
	for _, pair := range [][2]api.Policy{{a, b}, {b, a}} {
		if got, e := Join(pair[0], pair[1]); e != api.OK || !equal(got, want) {
			t.Errorf("Join(%v) = %v, %d", pair, got, e)
		}
	}
	odd := api.Policy{Ram: everyOther(2048), Save: everyOther(8192)}
	even := copied(odd)
	for i := range even.Ram {
		even.Ram[i] = api.Range{From: 2*i + 1, To: 2*i + 1}
	}
	for i := range even.Save {
		even.Save[i] = api.Range{From: 2*i + 1, To: 2*i + 1}
	}
	whole := api.Policy{Ram: []api.Range{{From: 0, To: 2047}}, Save: []api.Range{{From: 0, To: 8191}}}
	if got, e := Join(odd, even); e != api.OK || !equal(got, whole) {
		t.Errorf("Join of all second places, and the others = %v, %d", got, e)
	}
	if !Covers(whole, odd) || !Covers(whole, even) || Covers(odd, even) || Covers(even, odd) || Covers(odd, whole) {
		t.Error("Covers of all second places, and the others")
	}
}

func TestJoinAndCoversRefuse(t *testing.T) {
	good := []api.Policy{{}, {Ports: [2]bool{true, true}, Ram: []api.Range{{From: 0, To: 2047}}, Save: []api.Range{{From: 0, To: 8191}}}}
	for _, bad := range refused() {
		for _, other := range append(good, bad) {
			for _, pair := range [][2]api.Policy{{bad, other}, {other, bad}} {
				if got, e := Join(pair[0], pair[1]); e != api.ErrArg || !equal(got, api.Policy{}) {
					t.Errorf("Join(%v) = %v, %d", pair, got, e)
				}
				if Covers(pair[0], pair[1]) {
					t.Errorf("Covers(%v)", pair)
				}
			}
		}
	}
}

func TestWhatIsJoinedIsNewMemory(t *testing.T) {
	a := api.Policy{Ram: make([]api.Range, 1, 9), Save: make([]api.Range, 1, 9)} // with room behind, where one may write by mistake
	b := api.Policy{Ram: []api.Range{{From: 7, To: 8}}, Save: []api.Range{{From: 9, To: 9}}}
	nothing := make([]api.Range, 9)
	for _, pair := range [][2]api.Policy{{a, b}, {b, a}, {a, {}}, {{}, a}, {a, a}} {
		j, _ := Join(pair[0], pair[1])
		for i := range j.Ram {
			j.Ram[i] = api.Range{From: 77, To: 78}
		}
		for i := range j.Save {
			j.Save[i] = api.Range{From: 87, To: 88}
		}
		if !slices.Equal(a.Ram[:9], nothing) || !slices.Equal(a.Save[:9], nothing) || b.Ram[0].From != 7 || b.Save[0].From != 9 {
			t.Fatalf("what was handed in became %v, %v, and %v", a.Ram[:9], a.Save[:9], b)
		}
	}
}

// P3.4

func TestWhatIsPrintedIsParsedToWhatItWas(t *testing.T) {
	ram := fitting(listsOf(0, 1, 10, 171, 2046, 2047), 2048)
	save := fitting(listsOf(0, 255, 4096, 8190, 8191), 8192)
	for _, p := range ofLists(ram, save) {
		text, e := Print(p)
		if got, line, f := Parse(text); e != api.OK || f != api.OK || line != 0 || !Same(got, p) {
			t.Fatalf("%v is printed to %q, %d, and parsed to %v, %d, %d", p, text, e, got, line, f)
		}
	}
}

func TestWhatIsPrintedIsParsedUpToTheLimit(t *testing.T) {
	for many := range 293 { // a line of memory has 14 octets, and 292 of them have 4088
		p := api.Policy{Ports: [2]bool{many%2 == 0, false}, Ram: everyOther(2 * many)}
		text, e := Print(p)
		if got, line, f := Parse(text); e != api.OK || f != api.OK || line != 0 || !Same(got, p) {
			t.Fatalf("%d ranges: %d octets, %d, %d, %d", many, len(text), e, line, f)
		}
	}
	text, _ := Print(api.Policy{Ram: everyOther(2 * 293)})
	if got, line, e := Parse(text); len(text) != 4102 || e != api.ErrLarge || line != 0 || !None(got) {
		t.Errorf("a text of %d octets is parsed to %v, %d, %d", len(text), got, line, e)
	}
}

func TestAJoinedOneIsTheLeastThatCoversBoth(t *testing.T) {
	all, _, _ := joinable()
	all = all[:24] // of one way of ports: those of the others follow
	all = append(all, api.Policy{Ports: [2]bool{true, false}}, api.Policy{Ports: [2]bool{false, true}}, api.Policy{Ports: [2]bool{true, true}, Ram: []api.Range{{From: 0, To: 2047}}, Save: []api.Range{{From: 0, To: 8191}}})
	for _, a := range all {
		for _, b := range all {
			j, _ := Join(a, b)
			if !Covers(j, a) || !Covers(j, b) {
				t.Fatalf("%v doesn't cover %v and %v", j, a, b)
			}
			for _, c := range all {
				if Covers(c, j) != (Covers(c, a) && Covers(c, b)) {
					t.Fatalf("%v, of which %v and %v are joined to %v", c, a, b, j)
				}
			}
		}
	}
}

func TestThePolicyOfExampleOne(t *testing.T) {
	p := api.Policy{Ports: [2]bool{true, false}, Ram: []api.Range{{From: 16, To: 31}}}
	text, _ := Print(p)
	if got, line, e := Parse(text); !strings.Contains(text, "ram 0010-001f") || !Same(got, p) || line != 0 || e != api.OK {
		t.Errorf("%q is parsed to %v, %d, %d", text, got, line, e)
	}
}
