package opcode

import (
	"slices"
	"strconv"
	"strings"
	"testing"
)

// byName is all opcodes, a line for each name: behind each mode the opcodes that have it.
const byName = `
ADC: izx 61, zp 65, imm 69, abs 6d, izy 71, zpx 75, aby 79, abx 7d
ALR: imm 4b
ANC: imm 0b 2b
AND: izx 21, zp 25, imm 29, abs 2d, izy 31, zpx 35, aby 39, abx 3d
ANE: imm 8b
ARR: imm 6b
ASL: zp 06, acc 0a, abs 0e, zpx 16, abx 1e
BCC: rel 90
BCS: rel b0
BEQ: rel f0
BIT: zp 24, abs 2c
BMI: rel 30
BNE: rel d0
BPL: rel 10
BRK: brk 00
BVC: rel 50
BVS: rel 70
CLC: imp 18
CLD: imp d8
CLI: imp 58
CLV: imp b8
CMP: izx c1, zp c5, imm c9, abs cd, izy d1, zpx d5, aby d9, abx dd
CPX: imm e0, zp e4, abs ec
CPY: imm c0, zp c4, abs cc
DCP: izx c3, zp c7, abs cf, izy d3, zpx d7, aby db, abx df
DEC: zp c6, abs ce, zpx d6, abx de
DEX: imp ca
DEY: imp 88
EOR: izx 41, zp 45, imm 49, abs 4d, izy 51, zpx 55, aby 59, abx 5d
INC: zp e6, abs ee, zpx f6, abx fe
INX: imp e8
INY: imp c8
ISC: izx e3, zp e7, abs ef, izy f3, zpx f7, aby fb, abx ff
JAM: jam 02 12 22 32 42 52 62 72 92 b2 d2 f2
JMP: jmp 4c, ind 6c
JSR: jsr 20
LAS: aby bb
LAX: izx a3, zp a7, abs af, izy b3, zpy b7, aby bf
LDA: izx a1, zp a5, imm a9, abs ad, izy b1, zpx b5, aby b9, abx bd
LDX: imm a2, zp a6, abs ae, zpy b6, aby be
LDY: imm a0, zp a4, abs ac, zpx b4, abx bc
LSR: zp 46, acc 4a, abs 4e, zpx 56, abx 5e
LXA: imm ab
NOP: zp 04 44 64, abs 0c, zpx 14 34 54 74 d4 f4, imp 1a 3a 5a 7a da ea fa, abx 1c 3c 5c 7c dc fc, imm 80 82 89 c2 e2
ORA: izx 01, zp 05, imm 09, abs 0d, izy 11, zpx 15, aby 19, abx 1d
PHA: push 48
PHP: push 08
PLA: pull 68
PLP: pull 28
RLA: izx 23, zp 27, abs 2f, izy 33, zpx 37, aby 3b, abx 3f
ROL: zp 26, acc 2a, abs 2e, zpx 36, abx 3e
ROR: zp 66, acc 6a, abs 6e, zpx 76, abx 7e
RRA: izx 63, zp 67, abs 6f, izy 73, zpx 77, aby 7b, abx 7f
RTI: rti 40
RTS: rts 60
SAX: izx 83, zp 87, abs 8f, zpy 97
SBC: izx e1, zp e5, imm e9 eb, abs ed, izy f1, zpx f5, aby f9, abx fd
SBX: imm cb
SEC: imp 38
SED: imp f8
SEI: imp 78
SHA: izy 93, aby 9f
SHX: aby 9e
SHY: abx 9c
SLO: izx 03, zp 07, abs 0f, izy 13, zpx 17, aby 1b, abx 1f
SRE: izx 43, zp 47, abs 4f, izy 53, zpx 57, aby 5b, abx 5f
STA: izx 81, zp 85, abs 8d, izy 91, zpx 95, aby 99, abx 9d
STX: zp 86, abs 8e, zpy 96
STY: zp 84, abs 8c, zpx 94
TAS: aby 9b
TAX: imp aa
TAY: imp a8
TSX: imp ba
TXA: imp 8a
TXS: imp 9a
TYA: imp 98
`

// modeNumbers is the modes by their numbers.
func modeNumbers() []string {
	return strings.Fields("imp acc imm zp zpx zpy abs abx aby izx izy rel ind jmp jsr rts rti brk push pull jam")
}

// entered is an opcode, as a line of byName has it.
type entered struct {
	name string
	mode int
	op   uint8
}

// allEntered is all that byName has, rising by their opcodes.
func allEntered(t *testing.T) []entered {
	t.Helper()
	var l []entered
	for _, line := range strings.Split(strings.TrimSpace(byName), "\n") {
		name, modes, _ := strings.Cut(line, ": ")
		for _, part := range strings.Split(modes, ", ") {
			words := strings.Fields(part)
			for _, word := range words[1:] {
				op, err := strconv.ParseUint(word, 16, 8)
				if err != nil {
					t.Fatal(err)
				}
				l = append(l, entered{name, slices.Index(modeNumbers(), words[0]), uint8(op)})
			}
		}
	}
	slices.SortFunc(l, func(a, b entered) int { return int(a.op) - int(b.op) })
	for i, e := range l {
		if int(e.op) != i || e.mode < 0 || len(l) != 256 {
			t.Fatalf("byName is wrong at %x: %v, of %d", i, e, len(l))
		}
	}
	return l
}

// names is all names, each once.
func names() []string {
	var l []string
	for _, line := range strings.Split(strings.TrimSpace(byName), "\n") {
		l = append(l, line[:3])
	}
	return l
}

// The grids have a row for each upper half of an opcode, and a column for each lower one.

// cycleGrid is how many cycles an instruction takes.
const cycleGrid = `
7608335532224466
2508446624274477
6608335542224466
2508446624274477
6608335532223466
2508446624274477
6608335542225466
2508446624274477
2626333322224444
2606444425255555
2626333322224444
2505444424244444
2628335522224466
2508446624274477
2628335522224466
2508446624274477
`

// useGrid is what it does with what it works on: nothing, reads, writes, both.
const useGrid = `
-r-brrbb-r-rrrbb
-r-brrbb-r-brrbb
-r-brrbb-r-rrrbb
-r-brrbb-r-brrbb
-r-brrbb-r-r-rbb
-r-brrbb-r-brrbb
-r-brrbb-r-r-rbb
-r-brrbb-r-brrbb
rwrwwwww-r-rwwww
-w-wwwww-w-wwwww
rrrrrrrr-r-rrrrr
-r-rrrrr-r-rrrrr
rrrbrrbb-r-rrrbb
-r-brrbb-r-brrbb
rrrbrrbb-r-rrrbb
-r-brrbb-r-brrbb
`

// crossGrid is whether it takes one more where a page is crossed.
const crossGrid = `
----------------
xx-------x--xx--
----------------
xx-------x--xx--
----------------
xx-------x--xx--
----------------
xx-------x--xx--
----------------
x---------------
----------------
xx-x-----x-xxxxx
----------------
xx-------x--xx--
----------------
xx-------x--xx--
`

// goodGrid is whether it is official.
const goodGrid = `
oo---oo-ooo--oo-
oo---oo-oo---oo-
oo--ooo-ooo-ooo-
oo---oo-oo---oo-
oo---oo-ooo-ooo-
oo---oo-oo---oo-
oo---oo-ooo-ooo-
oo---oo-oo---oo-
-o--ooo-o-o-ooo-
oo--ooo-ooo--o--
ooo-ooo-ooo-ooo-
oo--ooo-ooo-ooo-
oo--ooo-ooo-ooo-
oo---oo-oo---oo-
oo--ooo-ooo-ooo-
oo---oo-oo---oo-
`

// gridAt is what a grid has of an opcode.
func gridAt(grid string, op int) byte {
	return strings.Fields(grid)[op/16][op%16]
}
