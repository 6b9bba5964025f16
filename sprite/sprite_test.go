package sprite

import (
	"math"
	"slices"
	"testing"

	"seepage/api"
)

// Where sprites are, by the chapter's words.

// highWords is how high sprites are.
func highWords(tall bool) int {
	if tall {
		return 16
	}
	return 8
}

// isOnWords tells whether a sprite with that Y is on the line behind a line: one of its rows is.
func isOnWords(y uint8, line int, tall bool) bool {
	for row := range highWords(tall) {
		if int(y)+row == line {
			return true
		}
	}
	return false
}

// allOnWords is all that are on the line behind, rising.
func allOnWords(l []api.Byte, line int, tall bool) []int {
	var all []int
	for i := range 64 {
		if isOnWords(l[4*i].V, line, tall) {
			all = append(all, i)
		}
	}
	return all
}

// rowWords is a sprite's row on the line behind, wherever it is.
func rowWords(y, like uint8, line int, tall bool) int {
	row := line - int(y)
	for row < 0 {
		row += highWords(tall)
	}
	for row >= highWords(tall) {
		row -= highWords(tall)
	}
	if like >= 128 {
		row = highWords(tall) - 1 - row
	}
	return row
}

// addressWords is where a sprite's row is: of a tall one that of one of two tiles, the upper one's number is even.
func addressWords(y, tile, like uint8, line int, tall, table bool) uint16 {
	which, in, row := int(tile), 0, rowWords(y, like, line, tall)
	switch {
	case tall:
		which, in, row = which/2*2+row/8, which%2, row%8
	case table:
		in = 1
	}
	return uint16(in*4096 + which*16 + row)
}

// spread is bytes that look like none in particular, all low: others for each seed.
func spread(seed int) []api.Byte {
	l := make([]api.Byte, 256)
	n := uint32(seed)*2654435761 + 12345
	for i := range l {
		n = n*1664525 + 1013904223
		l[i].V = uint8(n >> 24)
	}
	return l
}

// crowded is a spread in which Ys are near one another, so that more are on a line than are found.
func crowded(seed int) []api.Byte {
	l := spread(seed)
	for i := range 64 {
		l[4*i].V = l[4*i].V%uint8(8+seed%48) + uint8(seed)
	}
	return l
}

// withSecrets is bytes in which just those are secret that a seed tells.
func withSecrets(l []api.Byte, seed int) []api.Byte {
	l = slices.Clone(l)
	for i, b := range spread(seed) {
		l[i].S = b.V%4 == 0
	}
	return l
}

// labelled is a spread in which of a sprite's bytes those are secret that the bits of labels tell, and of all others all, or none.
func labelled(seed, i, labels int) []api.Byte {
	l := spread(seed)
	for at := range l {
		l[at].S = seed%2 == 0
		if at/4 == i {
			l[at].S = labels>>(at%4)&1 != 0
		}
	}
	return l
}

// alone is bytes in which one sprite has that Y, and all others are on no line behind that one.
func alone(i int, y uint8, line int) []api.Byte {
	l := make([]api.Byte, 256)
	for j := range 64 {
		if line < 128 {
			l[4*j].V = 255
		}
	}
	l[4*i].V = y
	return l
}

// noLines is numbers that are no line: at the edges, at the ends of an int, and such that are one if they are cut to fewer bits.
func noLines() []int {
	return []int{-1, -2, -255, -256, -65536, 256, 257, 511, 512, 65536, 65546, 1 << 32, 1<<32 + 10, math.MaxInt, math.MinInt, math.MinInt + 10}
}

// noSprites is numbers that are no sprite's, likewise.
func noSprites() []int {
	return []int{-1, -2, -64, -256, 64, 65, 127, 255, 256, 320, 65536, 1 << 32, math.MaxInt, math.MinInt, math.MinInt + 1, math.MinInt + 64}
}

// notAll is lists that have not 256 bytes, all of them secret.
func notAll() [][]api.Byte {
	all := [][]api.Byte{nil}
	for _, n := range []int{0, 1, 3, 4, 64, 252, 255, 257, 260, 512, 65536} {
		l := make([]api.Byte, n)
		for i := range l {
			l[i].S = true
		}
		all = append(all, l)
	}
	return all
}

// P15.1

// holdToFind fails where Find does otherwise than the words.
func holdToFind(t *testing.T, l []api.Byte, line int, tall bool) {
	all, secret := allOnWords(l, line, tall), false
	for i := range 64 {
		secret = secret || l[4*i].S
	}
	want := all[:min(len(all), 8)]
	got, more, s, e := Find(l, line, tall)
	if !slices.Equal(got, want) || more != (len(all) > 8) || s != secret || e != api.OK {
		t.Helper()
		t.Fatalf("Find(%v, %d, %v) = %v, %v, %v, %d, want %v, %v, %v", l, line, tall, got, more, s, e, want, len(all) > 8, secret)
	}
}

// One sprite of each Y, on each line.
func TestFindOfOne(t *testing.T) {
	for _, i := range []int{0, 1, 31, 63} {
		for line := range 256 {
			for y := range 256 {
				l := alone(i, uint8(y), line)
				holdToFind(t, l, line, false)
				holdToFind(t, l, line, true)
			}
		}
	}
}

func TestFindAtItsEdges(t *testing.T) {
	for _, c := range []struct {
		y    uint8
		line int
		tall bool
		is   bool
	}{
		{10, 9, false, false}, {10, 10, false, true}, {10, 17, false, true}, {10, 18, false, false},
		{10, 9, true, false}, {10, 10, true, true}, {10, 25, true, true}, {10, 26, true, false},
		{0, 0, false, true}, {0, 7, false, true}, {0, 8, false, false}, {0, 15, true, true}, {0, 16, true, false},
		{255, 255, false, true}, {255, 254, false, false}, {248, 255, false, true}, {247, 255, false, false}, {240, 255, true, true}, {239, 255, true, false},
		{250, 0, false, false}, {255, 0, true, false}, {250, 1, true, false}, // below the last line nothing goes around
	} {
		for i := range 64 {
			l := alone(i, c.y, c.line)
			got, more, s, e := Find(l, c.line, c.tall)
			if slices.Contains(got, i) != c.is || len(got) > 1 || more || s || e != api.OK {
				t.Errorf("Find of sprite %d, %+v: %v, %v, %v, %d", i, c, got, more, s, e)
			}
		}
	}
}

// As many as there may be, among others that are on no line, from the first one on, to the last one, and scattered.
func TestFindOfMany(t *testing.T) {
	for n := range 65 {
		for _, step := range []int{1, 5, 63} {
			for from := range 64 {
				l := make([]api.Byte, 256)
				for i := range 64 {
					l[4*i].V = 200
				}
				for k := range n {
					l[4*((from+k*step)%64)].V = uint8(100 - k%8)
				}
				got, more, _, _ := Find(l, 100, false)
				if len(got) != min(n, 8) || more != (n > 8) {
					t.Fatalf("Find of %d from %d by %d: %v, %v", n, from, step, got, more)
				}
				holdToFind(t, l, 100, false)
				holdToFind(t, l, 107, true)
			}
		}
	}
}

func TestFindOfSpreads(t *testing.T) {
	for seed := range 200 {
		for _, l := range [][]api.Byte{spread(seed), crowded(seed), withSecrets(crowded(seed), seed+1)} {
			for line := range 256 {
				holdToFind(t, l, line, false)
				holdToFind(t, l, line, true)
			}
		}
	}
}

// Each byte alone is secret: that tells which are found, if it is a Y, though it be one that isn't found.
func TestFindOfOneSecret(t *testing.T) {
	for seed := range 8 {
		for i := range 256 {
			for _, l := range [][]api.Byte{spread(seed), crowded(seed), make([]api.Byte, 256)} {
				l[i].S = true
				for _, line := range []int{0, 7, 8, 100, 255} {
					if _, _, s, e := Find(l, line, seed%2 == 0); s != (i%4 == 0) || e != api.OK {
						t.Fatalf("Find with byte %d secret: %v, %d", i, s, e)
					}
					holdToFind(t, l, line, seed%2 == 1)
				}
			}
		}
	}
}

func TestFindOfWhatMayNotBe(t *testing.T) {
	refused := func(l []api.Byte, line int) {
		for _, tall := range []bool{false, true} {
			if got, more, s, e := Find(l, line, tall); got != nil || more || s || e != api.ErrArg {
				t.Errorf("Find of %d bytes, %d, %v: %v, %v, %v, %d", len(l), line, tall, got, more, s, e)
			}
		}
	}
	full := withSecrets(make([]api.Byte, 256), 3)
	for _, line := range noLines() {
		refused(full, line)
	}
	for _, l := range notAll() {
		refused(l, 0)
		refused(l, 255)
		refused(l, -1)
	}
}

// P15.2

// holdToAddress fails where Address does otherwise than the words.
func holdToAddress(t *testing.T, l []api.Byte, i, line int, tall, table bool) {
	y, tile, like := l[4*i], l[4*i+1], l[4*i+2]
	want, secret := addressWords(y.V, tile.V, like.V, line, tall, table), y.S || tile.S || like.S
	if got, s, e := Address(l, i, line, tall, table); got != want || s != secret || e != api.OK {
		t.Helper()
		t.Fatalf("Address(%v, %d, %d, %v, %v) = %d, %v, %d, want %d, %v", l[4*i:4*i+4], i, line, tall, table, got, s, e, want, secret)
	}
}

// holdToAddresses holds Address to the words by both heights and both tables.
func holdToAddresses(t *testing.T, l []api.Byte, i, line int) {
	t.Helper()
	for k := range 4 {
		holdToAddress(t, l, i, line, k&1 != 0, k&2 != 0)
	}
}

// All Ys, on all lines: also where the sprite isn't.
func TestAddressOfAllRows(t *testing.T) {
	l := make([]api.Byte, 256)
	for y := range 256 {
		for line := range 256 {
			i := (y + line) % 64
			for _, like := range []uint8{0, 0x80, 0x7f, 0xff} {
				l[4*i], l[4*i+1], l[4*i+2] = api.Byte{V: uint8(y)}, api.Byte{V: uint8(7*y + line)}, api.Byte{V: like}
				holdToAddresses(t, l, i, line)
			}
		}
	}
}

func TestAddressOfAllTiles(t *testing.T) {
	l := make([]api.Byte, 256)
	for tile := range 256 {
		for like := range 256 {
			i := (tile + like) % 64
			l[4*i], l[4*i+1], l[4*i+2] = api.Byte{V: 30}, api.Byte{V: uint8(tile)}, api.Byte{V: uint8(like)}
			for line := 22; line < 54; line++ {
				holdToAddresses(t, l, i, line)
			}
		}
	}
}

func TestAddressAtItsEdges(t *testing.T) {
	for _, c := range []struct {
		y, tile, like uint8
		line          int
		tall, table   bool
		want          uint16
	}{
		{10, 0, 0, 10, false, false, 0}, {10, 0, 0, 17, false, false, 7}, {10, 0, 0, 18, false, false, 0}, {10, 0, 0, 9, false, false, 7},
		{10, 0, 0x80, 10, false, false, 7}, {10, 0, 0x80, 17, false, false, 0}, {10, 0, 0x80, 9, false, false, 0}, {10, 0, 0x40, 10, false, false, 0},
		{10, 1, 0, 10, false, false, 16}, {10, 255, 0, 10, false, false, 4080}, {10, 255, 0, 10, false, true, 8176},
		{10, 0, 0, 17, true, false, 7}, {10, 0, 0, 18, true, false, 16}, {10, 0, 0, 25, true, false, 23}, {10, 0, 0, 26, true, false, 0}, {10, 0, 0, 9, true, false, 23},
		{10, 0, 0x80, 10, true, false, 23}, {10, 0, 0x80, 17, true, false, 16}, {10, 0, 0x80, 18, true, false, 7}, {10, 0, 0x80, 25, true, false, 0},
		{10, 1, 0, 10, true, false, 4096}, {10, 1, 0, 10, true, true, 4096}, {10, 0, 0, 10, true, true, 0}, {10, 255, 0, 25, true, false, 8183}, {10, 254, 0, 25, true, true, 4087},
		{0, 0, 0, 255, false, false, 7}, {0, 0, 0, 255, true, false, 23}, {255, 0, 0, 0, false, false, 1}, {255, 0, 0, 0, true, false, 1},
	} {
		l := spread(9)
		copy(l[4*63:], []api.Byte{{V: c.y}, {V: c.tile}, {V: c.like}, {V: 255}})
		if at, s, e := Address(l, 63, c.line, c.tall, c.table); at != c.want || s || e != api.OK {
			t.Errorf("Address of %+v: %d, %v, %d", c, at, s, e)
		}
	}
}

// All labels of each sprite's bytes, those of all others are otherwise.
func TestAddressOfSecrets(t *testing.T) {
	for seed := range 4 {
		for i := range 64 {
			for labels := range 16 {
				l := labelled(seed, i, labels)
				for _, line := range []int{0, 3, 8, 120, 255} {
					holdToAddresses(t, l, i, line)
				}
				if _, s, _ := Address(l, i, 40, seed%2 == 0, seed > 1); s != (labels&7 != 0) {
					t.Fatalf("Address of sprite %d by labels %b: %v", i, labels, s)
				}
			}
		}
	}
}

func TestAddressOfWhatMayNotBe(t *testing.T) {
	refused := func(l []api.Byte, i, line int) {
		for k := range 4 {
			if at, s, e := Address(l, i, line, k&1 != 0, k&2 != 0); at != 0 || s || e != api.ErrArg {
				t.Errorf("Address of %d bytes, %d, %d: %d, %v, %d", len(l), i, line, at, s, e)
			}
		}
	}
	full := withSecrets(spread(5), 3)
	for _, line := range noLines() {
		refused(full, 0, line)
		refused(full, 63, line)
	}
	for _, i := range noSprites() {
		refused(full, i, 0)
		refused(full, i, 255)
		refused(full, i, 256)
	}
	for _, l := range notAll() {
		refused(l, 0, 0)
		refused(l, 63, 255)
		refused(l, -1, -1)
	}
}

// The chapter's examples.

func TestExamples(t *testing.T) {
	for line := range 256 {
		got, _, _, _ := Find(alone(0, 10, line), line, false)
		if slices.Contains(got, 0) != (line >= 10 && line <= 17) {
			t.Errorf("of Y 10, Find of %d: %v", line, got)
		}
	}
	l := make([]api.Byte, 256)
	l[0].V, l[1].V = 10, 3
	if at, s, e := Address(l, 0, 12, true, false); at != 4096+32+2 || s || e != api.OK {
		t.Errorf("of tile 3, row 2, tall: %d, %v, %d", at, s, e)
	}
	if v, behind, zero := Dot(nil, 40); v != 0 || behind || zero {
		t.Errorf("Dot of no units: %d, %v, %v", v, behind, zero)
	}
}
