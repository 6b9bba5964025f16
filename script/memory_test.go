package script

import (
	"math"
	"slices"
	"strings"
	"testing"

	"seepage/api"
)

// badPolicies is policies that may not be, each one by one thing.
func badPolicies() []api.Policy {
	var all []api.Policy
	for _, l := range [][]api.Range{
		{{From: 1, To: 0}},
		{{From: -1, To: 0}},
		{{From: 0, To: 1}, {From: 2, To: 3}}, // they touch
		{{From: 4, To: 5}, {From: 0, To: 1}}, // they fall
		{{From: 0, To: 8192}},
		{{From: 8192, To: 8192}},
		{{From: 0, To: math.MaxInt}},
		{{From: math.MinInt, To: math.MaxInt}},
	} {
		all = append(all, api.Policy{Ram: l}, api.Policy{Save: l}, api.Policy{Ports: [2]bool{true, true}, Ram: l, Save: l})
	}
	return append(all, api.Policy{Ram: []api.Range{{From: 2048, To: 2048}}}, api.Policy{Ram: []api.Range{{From: 0, To: 2048}}})
}

// rangeLists is lists of ranges that may be, at the ends of so many cells and within.
func rangeLists(size int) [][]api.Range {
	return [][]api.Range{
		nil,
		{},
		{{From: 0, To: 0}},
		{{From: 1, To: 1}},
		{{From: 0, To: size - 1}},
		{{From: size - 1, To: size - 1}},
		{{From: 0, To: 2}, {From: 4, To: 4}, {From: size - 2, To: size - 2}},
		{{From: 1, To: size/2 - 1}, {From: size/2 + 1, To: size - 2}},
	}
}

// memory is cells made slowly: the octets, and 0 behind them, secret where one of the ranges is.
func memory(size int, values string, secret []api.Range) []api.Byte {
	l := make([]api.Byte, size)
	for at := range l {
		if at < len(values) {
			l[at].V = values[at]
		}
		for _, r := range secret {
			if r.From <= at && at <= r.To {
				l[at].S = true
			}
		}
	}
	return l
}

// P4.2

func TestRamAndSave(t *testing.T) {
	for _, ports := range [][2]bool{{}, {true, true}} {
		for i, ram := range rangeLists(2048) {
			save := rangeLists(8192)[(i+3)%8] // another one than memory's
			p := api.Policy{Ports: ports, Ram: ram, Save: save}
			for _, s := range []api.Script{
				{},
				{Ram: "\x09", Save: "ab"},
				{Ram: "\xc3\xa9\xff\x00\x01", Save: "\x00\x80"},
				{Ram: octets(2047), Save: octets(8191)},
				{Pads: octets(1200), Resets: []int{599}, Ram: octets(2048), Save: octets(8192)},
			} {
				holdToMemory(t, p, s)
			}
		}
	}
}

// holdToMemory fails where Ram or Save of a policy and a script, that both may be, says otherwise than the words, or changes what is handed in.
func holdToMemory(t *testing.T, p api.Policy, s api.Script) {
	t.Helper()
	ramBefore, saveBefore, scriptBefore := slices.Clone(p.Ram), slices.Clone(p.Save), copied(s)
	if got, e := Ram(p, s); e != api.OK || !slices.Equal(got, memory(2048, s.Ram, p.Ram)) {
		t.Fatalf("Ram of %v and %d octets: %d cells, %d", p, len(s.Ram), len(got), e)
	}
	if got, e := Save(p, s); e != api.OK || !slices.Equal(got, memory(8192, s.Save, p.Save)) {
		t.Fatalf("Save of %v and %d octets: %d cells, %d", p, len(s.Save), len(got), e)
	}
	if !slices.Equal(p.Ram, ramBefore) || !slices.Equal(p.Save, saveBefore) || !equal(s, scriptBefore) {
		t.Fatalf("what was handed in became %v", p)
	}
}

func TestRamAndSaveOfEachPlace(t *testing.T) {
	s := api.Script{Ram: octets(2048), Save: octets(8192)}
	for at := 0; at < 2048; at += 89 { // 2047 is 23 times 89
		holdToMemory(t, api.Policy{Ram: []api.Range{{From: at, To: at}}, Save: []api.Range{{From: 4 * at, To: 4*at + 3}}}, s)
	}
}

func TestRamAndSaveByName(t *testing.T) {
	p := api.Policy{Ram: []api.Range{{From: 0, To: 1}}, Save: []api.Range{{From: 1, To: 1}, {From: 8191, To: 8191}}}
	s := api.Script{Ram: "\x09", Save: "ab"}
	ram, e := Ram(p, s)
	if e != api.OK || len(ram) != 2048 || ram[0] != (api.Byte{V: 9, S: true}) || ram[1] != (api.Byte{S: true}) || ram[2] != (api.Byte{}) || ram[2047] != (api.Byte{}) {
		t.Errorf("Ram: %d cells, %d", len(ram), e)
	}
	save, e := Save(p, s)
	if e != api.OK || len(save) != 8192 || save[0] != (api.Byte{V: 'a'}) || save[1] != (api.Byte{V: 'b', S: true}) || save[2] != (api.Byte{}) || save[8191] != (api.Byte{S: true}) {
		t.Errorf("Save: %d cells, %d", len(save), e)
	}
}

// holdToNone fails where Ram or Save answers anything but an error.
func holdToNone(t *testing.T, p api.Policy, s api.Script, want api.Errno) {
	t.Helper()
	if got, e := Ram(p, s); e != want || len(got) != 0 {
		t.Errorf("Ram of %v and resets %v: %d cells, %d, want %d", p, s.Resets, len(got), e, want)
	}
	if got, e := Save(p, s); e != want || len(got) != 0 {
		t.Errorf("Save of %v and resets %v: %d cells, %d, want %d", p, s.Resets, len(got), e, want)
	}
}

func TestWhyThereIsNoMemory(t *testing.T) {
	good := api.Policy{Ports: [2]bool{true, false}, Ram: []api.Range{{From: 0, To: 2047}}, Save: []api.Range{{From: 0, To: 8191}}}
	for _, s := range refused() {
		holdToNone(t, api.Policy{}, s, api.ErrScript)
		holdToNone(t, good, s, api.ErrScript)
	}
	for _, p := range badPolicies() {
		for _, s := range slices.Concat(accepted(), refused()) {
			holdToNone(t, p, s, api.ErrPolicy)
		}
	}
}

func TestMemoryIsNewEachTime(t *testing.T) {
	p := api.Policy{Ram: []api.Range{{From: 1, To: 1}}, Save: []api.Range{{From: 1, To: 1}}}
	s := api.Script{Ram: strings.Repeat("r", 2048), Save: strings.Repeat("s", 8192)}
	ram, _ := Ram(p, s)
	save, _ := Save(p, s)
	clear(ram)
	clear(save)
	holdToMemory(t, p, s)
}
