package script

import (
	"slices"
	"strings"
	"testing"

	"seepage/api"
	"seepage/cells"
	"seepage/policy"
)

// in tells whether a place is in one of some ranges.
func in(l []api.Range, at int) bool {
	for _, r := range l {
		if r.From <= at && at <= r.To {
			return true
		}
	}
	return false
}

// alike tells by the words whether two scripts are alike to a policy that may be.
func alike(p api.Policy, a, b api.Script) bool {
	if !mayBe(a) || !mayBe(b) || len(a.Pads) != len(b.Pads) || len(a.Save) != len(b.Save) || len(a.Ram) != len(b.Ram) {
		return false
	}
	if !equal(api.Script{Resets: a.Resets}, api.Script{Resets: b.Resets}) {
		return false
	}
	for frame := range len(a.Pads) / 2 {
		for port, secret := range p.Ports {
			if at := 2*frame + port; !secret && a.Pads[at] != b.Pads[at] {
				return false
			}
		}
	}
	for at := range len(a.Save) {
		if !in(p.Save, at) && a.Save[at] != b.Save[at] {
			return false
		}
	}
	for at := range len(a.Ram) {
		if !in(p.Ram, at) && a.Ram[at] != b.Ram[at] {
			return false
		}
	}
	return true
}

// smallPolicies is policies of all ports, in which first, second or third cells are secret.
func smallPolicies() []api.Policy {
	lists := [][]api.Range{nil, {{From: 0, To: 0}}, {{From: 1, To: 1}}, {{From: 0, To: 0}, {From: 2, To: 2047}}}
	var all []api.Policy
	for _, ports := range [][2]bool{{}, {true, false}, {false, true}, {true, true}} {
		for _, ram := range lists {
			for _, save := range lists {
				all = append(all, api.Policy{Ports: ports, Ram: ram, Save: save})
			}
		}
	}
	return all
}

// textsOf is all texts of none to so many octets, each one of two.
func textsOf(most int) []string {
	all := []string{""}
	for i := 0; i < len(all); i++ { // it grows as it is gone through
		if len(all[i]) < most {
			all = append(all, all[i]+"\x00", all[i]+"\xff")
		}
	}
	return all
}

// smallScripts is scripts that differ in one part, or in two, all short ones of each.
func smallScripts() []api.Script {
	var all []api.Script
	for _, pads := range textsOf(4) { // also those of which half a frame is missing
		all = append(all, api.Script{Pads: pads})
	}
	for _, text := range textsOf(3)[1:] {
		all = append(all, api.Script{Save: text}, api.Script{Ram: text})
	}
	for _, save := range textsOf(1) {
		for _, ram := range textsOf(2) {
			all = append(all, api.Script{Pads: "\x00\xff", Save: save + "\xff", Ram: ram})
		}
	}
	for _, resets := range [][]int{{}, {0}, {1}, {0, 1}, {1, 0}, {2}, {-1}} {
		all = append(all, api.Script{Pads: "\xff\x00\xff\x00", Resets: resets}, api.Script{Pads: "\xff\xff\xff\x00", Resets: resets})
	}
	return all
}

// P4.3

func TestAlike(t *testing.T) {
	all := smallScripts()
	for _, p := range smallPolicies() {
		for _, a := range all {
			for _, b := range all {
				if got, want := Alike(p, a, copied(b)), alike(p, a, b); got != want {
					t.Fatalf("Alike(%v, %#v, %#v) = %v", p, a, b, got)
				}
			}
		}
	}
}

func TestAlikeOfEachOctet(t *testing.T) {
	a := api.Script{Pads: octets(1200), Resets: []int{0, 599}, Save: octets(8192), Ram: octets(2048)}
	policies := []api.Policy{{Ports: [2]bool{true, true}}}
	for i, ram := range rangeLists(2048) {
		policies = append(policies, api.Policy{Ports: [2]bool{i%2 == 0, i%2 == 1}, Ram: ram, Save: rangeLists(8192)[(i+3)%8]})
	}
	for _, p := range policies {
		for at := range 8192 {
			var changed []api.Script
			save := a
			save.Save = flipped(a.Save, at)
			changed = append(changed, save)
			if at < 2048 {
				ram := a
				ram.Ram = flipped(a.Ram, at)
				changed = append(changed, ram)
			}
			if at < 1200 {
				pads := a
				pads.Pads = flipped(a.Pads, at)
				changed = append(changed, pads)
			}
			for part, b := range changed {
				want := [...]bool{in(p.Save, at), in(p.Ram, at), p.Ports[at%2]}[part]
				if got := Alike(p, a, b); got != want {
					t.Fatalf("Alike to %v with part %d changed at %d = %v", p, part, at, got)
				}
			}
		}
	}
}

// allSecret is the policy to which all is secret that can be.
func allSecret() api.Policy {
	return api.Policy{Ports: [2]bool{true, true}, Ram: []api.Range{{From: 0, To: 2047}}, Save: []api.Range{{From: 0, To: 8191}}}
}

func TestAlikeByName(t *testing.T) {
	second := api.Policy{Ports: [2]bool{true, false}}
	base := api.Script{Pads: "\x01\x02\x03\x04", Resets: []int{1}, Save: "ab", Ram: "cd"}
	for _, c := range []struct {
		p    api.Policy
		a, b api.Script
		want bool
	}{
		{second, api.Script{Pads: "\x01\x02"}, api.Script{Pads: "\x09\x02"}, true},
		{second, api.Script{Pads: "\x01\x02"}, api.Script{Pads: "\x01\x09"}, false},
		{second, base, base, true},
		{second, api.Script{Pads: "\u00e9"}, api.Script{Pads: "\u00e8"}, false}, // one rune, but the second octet differs
		{api.Policy{}, api.Script{Save: "\u20ac"}, api.Script{Save: "\u20ad"}, false},
		{api.Policy{}, api.Script{Ram: "\u20ac"}, api.Script{Ram: "\u20ad"}, false},
		{api.Policy{}, api.Script{}, api.Script{Resets: []int{}}, true},
		{allSecret(), base, api.Script{Pads: "zyxw", Resets: []int{1}, Save: "vu", Ram: "ts"}, true},
		{allSecret(), base, api.Script{Pads: base.Pads, Resets: []int{1}, Save: "ab\x00", Ram: "cd"}, false}, // its cells are the same
		{allSecret(), base, api.Script{Pads: base.Pads, Resets: []int{1}, Save: "a", Ram: "cd"}, false},
		{allSecret(), base, api.Script{Pads: base.Pads, Resets: []int{1}, Save: "ab", Ram: "cd\x00"}, false},
		{allSecret(), base, api.Script{Pads: base.Pads, Resets: []int{1}, Save: "ab", Ram: "c"}, false},
		{allSecret(), base, api.Script{Pads: base.Pads + "ef", Resets: []int{1}, Save: "ab", Ram: "cd"}, false},
		{allSecret(), base, api.Script{Pads: base.Pads, Resets: []int{0}, Save: "ab", Ram: "cd"}, false},
		{allSecret(), base, api.Script{Pads: base.Pads, Resets: []int{0, 1}, Save: "ab", Ram: "cd"}, false},
		{allSecret(), base, api.Script{Pads: base.Pads, Save: "ab", Ram: "cd"}, false},
	} {
		if one, two := Alike(c.p, c.a, c.b), Alike(c.p, c.b, c.a); one != c.want || two != c.want {
			t.Errorf("Alike(%v, %#v, %#v) = %v, and %v the other way", c.p, c.a, c.b, one, two)
		}
	}
}

func TestWhatMayNotBeIsAlikeToNothing(t *testing.T) {
	for i, s := range refused() {
		for _, p := range []api.Policy{{}, allSecret()} {
			if Alike(p, s, s) || Alike(p, s, api.Script{}) || Alike(p, api.Script{}, s) {
				t.Errorf("the refused script %d is alike to something", i)
			}
		}
	}
	for _, p := range badPolicies() {
		for i, s := range accepted() {
			if Alike(p, s, s) {
				t.Errorf("the accepted script %d is alike to itself by %v", i, p)
			}
		}
	}
}

func TestAlikeAtTheLimits(t *testing.T) {
	a := api.Script{Pads: strings.Repeat("\x00", 1200), Resets: upTo(600), Save: strings.Repeat("\x00", 8192), Ram: strings.Repeat("\x00", 2048)}
	b := api.Script{Pads: strings.Repeat("\xff", 1200), Resets: upTo(600), Save: strings.Repeat("\xff", 8192), Ram: strings.Repeat("\xff", 2048)}
	if !Alike(allSecret(), a, b) || Alike(api.Policy{}, a, b) {
		t.Error("the longest ones")
	}
	p := allSecret()
	p.Save = nil
	for at := 0; at < 8192; at += 2 {
		p.Save = append(p.Save, api.Range{From: at, To: at})
	}
	c := b
	c.Save = strings.Repeat("\xff\x00", 4096)
	if !Alike(p, a, c) || Alike(p, a, b) {
		t.Error("the longest ones, to a policy of as many ranges as may be")
	}
}

func TestAlikeChangesNothing(t *testing.T) {
	p := api.Policy{Ram: []api.Range{{From: 0, To: 1}}, Save: []api.Range{{From: 0, To: 0}, {From: 2, To: 2}}}
	ram, save := slices.Clone(p.Ram), slices.Clone(p.Save)
	for _, a := range append(accepted(), refused()...) {
		b := copied(a)
		Alike(p, a, a)
		if !equal(a, b) || !slices.Equal(p.Ram, ram) || !slices.Equal(p.Save, save) {
			t.Fatalf("what was handed in became %v, %v", p, a.Resets)
		}
	}
}

// P4.4

func TestScriptsThatAreAlikeHaveCellsAndPadsThatAre(t *testing.T) {
	all := slices.DeleteFunc(smallScripts(), func(s api.Script) bool { return !mayBe(s) })
	for i, p := range smallPolicies() {
		for j, a := range all {
			for _, b := range all {
				if Alike(p, a, b) {
					holdToPads(t, p, a, b)
					if i%5 == 0 || j%7 == 0 { // cells are many
						holdToCells(t, p, a, b)
					}
				}
			}
		}
	}
}

// holdToPads fails where octets of pads of a port that is low differ.
func holdToPads(t *testing.T, p api.Policy, a, b api.Script) {
	t.Helper()
	for frame := range max(Frames(a), Frames(b)) {
		for port, secret := range p.Ports {
			if !secret && Pad(a, frame, port) != Pad(b, frame, port) {
				t.Fatalf("%q and %q are alike to %v", a.Pads, b.Pads, p)
			}
		}
	}
}

// holdToCells fails where cells of two scripts are not alike.
func holdToCells(t *testing.T, p api.Policy, a, b api.Script) {
	t.Helper()
	ramA, e := Ram(p, a)
	ramB, f := Ram(p, b)
	if e != api.OK || f != api.OK || !cells.Alike(ramA, ramB) {
		t.Fatalf("memory of %q and %q is not alike to %v: %d, %d", a.Ram, b.Ram, p, e, f)
	}
	saveA, e := Save(p, a)
	saveB, f := Save(p, b)
	if e != api.OK || f != api.OK || !cells.Alike(saveA, saveB) {
		t.Fatalf("kept memory of %q and %q is not alike to %v: %d, %d", a.Save, b.Save, p, e, f)
	}
}

func TestWhatIsAlikeStaysSoWhereMoreIsSecret(t *testing.T) {
	all := smallScripts()
	policies := append(smallPolicies(), allSecret())
	for _, less := range policies {
		for _, more := range policies {
			if !policy.Covers(more, less) {
				continue
			}
			for _, a := range all {
				for _, b := range all {
					if Alike(less, a, b) && !Alike(more, a, b) {
						t.Fatalf("%#v and %#v are alike to %v, not to %v", a, b, less, more)
					}
				}
			}
		}
	}
}

func TestWhereNothingIsSecretJustTheSameIsAlike(t *testing.T) {
	all := append(smallScripts(), accepted()...)
	for _, a := range all {
		for _, b := range all {
			if got, want := Alike(api.Policy{Ram: []api.Range{}}, a, b), mayBe(a) && Same(a, b); got != want {
				t.Fatalf("Alike of %#v and %#v where nothing is secret = %v", a, b, got)
			}
		}
	}
}
