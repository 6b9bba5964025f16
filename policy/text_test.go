package policy

import (
	"regexp"
	"slices"
	"strconv"
	"strings"
	"testing"

	"seepage/api"
)

// P3.2

var memoryLine = regexp.MustCompile(`^(ram|save) ([0-9a-f]{1,4})(?:-([0-9a-f]{1,4}))?$`)

// lineOf is what one line tells, by the words, and whether it is read.
func lineOf(line string) (api.Policy, bool) {
	switch {
	case line == "" || strings.HasPrefix(line, "#"):
		return api.Policy{}, true
	case line == "port 1":
		return api.Policy{Ports: [2]bool{true, false}}, true
	case line == "port 2":
		return api.Policy{Ports: [2]bool{false, true}}, true
	}
	part := memoryLine.FindStringSubmatch(line)
	if part == nil {
		return api.Policy{}, false
	}
	if part[3] == "" {
		part[3] = part[2]
	}
	from, _ := strconv.ParseUint(part[2], 16, 16)
	to, _ := strconv.ParseUint(part[3], 16, 16)
	one := []api.Range{{From: int(from), To: int(to)}}
	switch {
	case from > to:
		return api.Policy{}, false
	case part[1] == "ram":
		return api.Policy{Ram: one}, to < 2048
	}
	return api.Policy{Save: one}, to < 8192
}

// parsed is a short text's policy, or its first line that is not read, line by line.
func parsed(text string) (api.Policy, int, api.Errno) {
	var all api.Policy
	for i, line := range strings.Split(text, "\n") {
		one, ok := lineOf(line)
		if !ok {
			return api.Policy{}, i + 1, api.ErrPolicy
		}
		all.Ports = [2]bool{all.Ports[0] || one.Ports[0], all.Ports[1] || one.Ports[1]}
		all.Ram, all.Save = slices.Concat(all.Ram, one.Ram), slices.Concat(all.Save, one.Save)
	}
	return api.Policy{Ports: all.Ports, Ram: runs(places(all.Ram, 0, 2048)), Save: runs(places(all.Save, 0, 8192))}, 0, api.OK
}

// runs is the ranges of places that are so.
func runs(in []bool) []api.Range {
	var l []api.Range
	for at, so := range in {
		switch {
		case so && at > 0 && in[at-1]:
			l[len(l)-1].To = at
		case so:
			l = append(l, api.Range{From: at, To: at})
		}
	}
	return l
}

// holdToLine fails where Parse of one line says otherwise than the words.
func holdToLine(t *testing.T, line string) {
	t.Helper()
	want, ok := lineOf(line)
	p, n, e := Parse(line)
	if ok && (e != api.OK || n != 0 || !equal(p, want)) || !ok && (e != api.ErrPolicy || n != 1 || !equal(p, api.Policy{})) {
		t.Fatalf("Parse(%q) = %v, %d, %d", line, p, n, e)
	}
}

func TestParseOfLinesThatDifferInAnOctet(t *testing.T) {
	for _, line := range []string{"port 1", "port 2", "ram 0", "ram 7ff", "ram 0010-001f", "ram 9-a", "save 1fff", "save 0-f", "save 0abc-1def", "#", "# x"} {
		holdToLine(t, line)
		for at := 0; at <= len(line); at++ {
			head, tail := line[:at], line[at:]
			if tail != "" {
				holdToLine(t, head+tail[1:])
			}
			for v := range 256 {
				octet := string([]byte{byte(v)})
				if octet == "\n" {
					continue
				}
				holdToLine(t, head+octet+tail)
				if tail != "" {
					holdToLine(t, head+octet+tail[1:])
				}
			}
		}
	}
}

func TestParseOfAllNumbers(t *testing.T) {
	for n := range 65536 {
		digits := strconv.FormatInt(int64(n), 16)
		for ; len(digits) <= 4; digits = "0" + digits {
			holdToLine(t, "ram "+digits)
			holdToLine(t, "save "+digits)
		}
		holdToLine(t, "ram "+digits)
		holdToLine(t, "save "+digits[1:]+"-1fff")
	}
}

func TestParseOfLinesInPieces(t *testing.T) {
	numbers := []string{"", "0", "00", "0000", "00000", "1", "a", "A", "10", "7ff", "07ff", "800", "0800", "1fff", "2000", "ffff", "10000", "g", "+1", "-1", " 1", "1 ", "0x1", "1_0", "\u0661", "\uff11"}
	for _, word := range []string{"ram ", "save ", "ram", "save", "ram  ", " ram ", "Ram ", "RAM ", "ram\t", "port ", "saved ", "#ram ", ""} {
		for _, first := range numbers {
			holdToLine(t, word+first)
			for _, second := range numbers {
				for _, between := range []string{"-", "--", " - ", " ", ",", "\u2013"} {
					holdToLine(t, word+first+between+second)
				}
			}
		}
	}
}

func TestParseOfLinesByName(t *testing.T) {
	for _, line := range []string{"", "#", "# port 3", "#\x00\xff\r", "##", "port 1", "port 2", "ram 0", "ram 7ff", "ram 0000-07ff", "ram 5-05", "save 1fff", "save 0-1fff"} {
		if _, n, e := Parse(line); n != 0 || e != api.OK {
			t.Errorf("Parse(%q): %d, %d", line, n, e)
		}
	}
	for _, line := range []string{" ", "\t", "\r", " #", "x", "port", "port ", "port 0", "port 3", "port 12", "port 1 ", "port  1", "port 1\r", "Port 1", "port 01", "port 1 # first", "port 1-2", "ram", "ram ", "ram 800", "ram 7ff-800", "ram 1-0", "ram 00000", "ram 1-00002", "ram 1-", "ram -", "ram -1", "ram 1-2-3", "ram 1--2", "ram 1 -2", "ram 1- 2", "ram 1 2", "ram 1\r", "ram 1F", "ram 0x1", "save", "save 2000", "save 1fff-2000", "save 2-1", "save ffff", "\xff", "ram \xff", "ram 1\x00"} {
		if p, n, e := Parse(line); n != 1 || e != api.ErrPolicy || !equal(p, api.Policy{}) {
			t.Errorf("Parse(%q): %v, %d, %d", line, p, n, e)
		}
	}
}

// holdToText fails where Parse of a text says otherwise than the words, line by line.
func holdToText(t *testing.T, text string) {
	t.Helper()
	want, line, f := parsed(text)
	if p, n, e := Parse(text); e != f || n != line || !equal(p, want) {
		t.Fatalf("Parse(%q) = %v, %d, %d, want %v, %d, %d", text, p, n, e, want, line, f)
	}
}

func TestParseOfTexts(t *testing.T) {
	lines := []string{"", "# x", "port 2", "ram 4-6", "ram 7", "ram 5", "save 0-3", "save 4", "ram 800", "x"}
	for _, a := range lines {
		holdToText(t, a)
		holdToText(t, a+"\n")
		for _, b := range lines {
			for _, c := range lines {
				holdToText(t, a+"\n"+b+"\n"+c)
				holdToText(t, a+"\n"+b+"\n"+c+"\n")
			}
		}
	}
}

func TestParseOfTextsByName(t *testing.T) {
	for _, c := range []struct {
		text string
		want api.Policy
	}{
		{"", api.Policy{}},
		{"\n", api.Policy{}},
		{"\n\n\n", api.Policy{}},
		{"# nothing", api.Policy{}},
		{"port 1\nram 0010-001f", api.Policy{Ports: [2]bool{true, false}, Ram: []api.Range{{From: 16, To: 31}}}},
		{"port 2\nport 1\nport 2\n", api.Policy{Ports: [2]bool{true, true}}},
		{"save 9\nram 9\n", api.Policy{Ram: []api.Range{{From: 9, To: 9}}, Save: []api.Range{{From: 9, To: 9}}}},
		{"ram 20\nram 10-1f\nram 18-1a\nram 22", api.Policy{Ram: []api.Range{{From: 16, To: 32}, {From: 34, To: 34}}}},
	} {
		if p, n, e := Parse(c.text); !equal(p, c.want) || n != 0 || e != api.OK {
			t.Errorf("Parse(%q) = %v, %d, %d", c.text, p, n, e)
		}
	}
}

func TestParseTellsTheFirstLineThatIsNotRead(t *testing.T) {
	for at := range 30 {
		for behind := range 3 {
			text := strings.Repeat("ram 1\n", at) + "port 3" + strings.Repeat("\nram 900", behind)
			if p, n, e := Parse(text); n != at+1 || e != api.ErrPolicy || !equal(p, api.Policy{}) {
				t.Errorf("Parse(%q) = %v, %d, %d", text, p, n, e)
			}
		}
	}
	if p, n, e := Parse(strings.Repeat("\n", 4095) + "x"); n != 4096 || e != api.ErrPolicy || !equal(p, api.Policy{}) {
		t.Errorf("Parse of a text whose last line is not read: %v, %d, %d", p, n, e)
	}
}

func TestParseAtTheLimit(t *testing.T) {
	long := "port 1\n#"
	for _, text := range []string{
		long + strings.Repeat("x", 4096-len(long)),
		long + strings.Repeat("\u00e9", (4096-len(long))/2),
		long[:7] + strings.Repeat("\n", 4096-7),
		strings.Repeat("#\n", 2048-4) + "\nport 1\n",
	} {
		if p, n, e := Parse(text); len(text) != 4096 || n != 0 || e != api.OK || !equal(p, api.Policy{Ports: [2]bool{true, false}}) {
			t.Errorf("Parse of %d octets: %v, %d, %d", len(text), p, n, e)
		}
	}
	for _, text := range []string{
		long + strings.Repeat("x", 4097-len(long)),
		"#" + strings.Repeat("\u00e9", 2048), // more octets than may be, but fewer runes
		strings.Repeat("\n", 4097),
		"x\n" + strings.Repeat("\n", 4095), // and a line that is not read
		strings.Repeat("ram 0\n", 700),
		strings.Repeat("\n", 1<<20),
	} {
		if p, n, e := Parse(text); len(text) < 4097 || n != 0 || e != api.ErrLarge || !equal(p, api.Policy{}) {
			t.Errorf("Parse of %d octets: %v, %d, %d", len(text), p, n, e)
		}
	}
}

func TestParseOfManyLines(t *testing.T) {
	text := ""
	for at := 509; at >= 0; at-- { // the furthest first
		text += "save " + strconv.FormatInt(int64(4*at/3), 16) + "\n"
	}
	holdToText(t, text[:4090]) // a line that is cut off
	holdToText(t, text[:strings.LastIndex(text[:4096], "\n")])
}
