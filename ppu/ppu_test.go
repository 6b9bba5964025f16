package ppu

import (
	"math"
	"testing"

	"seepage/api"
)

// dice is numbers that look like none in particular.
type dice uint32

// next is the next one, below a number.
func (d *dice) next(below int) int {
	*d = *d*1664525 + 1013904223
	return int(*d>>8) % below
}

// flip is one of two.
func (d *dice) flip() bool { return d.next(2) == 1 }

// octet is the next octet.
func (d *dice) octet() uint8 { return uint8(d.next(256)) }

// byte is the next byte, secret in so many of 100.
func (d *dice) byte(secret int) api.Byte {
	return api.Byte{V: d.octet(), S: d.next(100) < secret}
}

// word is the next number of two octets.
func (d *dice) word() uint16 { return uint16(d.next(65536)) }

// unit is the next sprite on a line.
func (d *dice) unit(secret int) api.Unit {
	return api.Unit{X: d.octet(), Lo: d.octet(), Hi: d.octet(), Tint: uint8(d.next(4)), Behind: d.flip(), Zero: d.flip(), S: d.next(100) < secret}
}

// rasters are some that may be.
func rasters() []api.Raster {
	return []api.Raster{{Visible: 4, Lines: 8}, {Visible: 240, Lines: 262}, {Visible: 1, Lines: 4}, {Visible: 240, Lines: 300}, {Visible: 1, Lines: 300}, {Visible: 240, Lines: 243}, {Visible: 3, Lines: 6}, {Visible: 200, Lines: 261}}
}

// linesOf is lines of a raster: its edges, and some between.
func linesOf(r api.Raster) []int {
	return []int{0, r.Visible / 2, r.Visible - 1, r.Visible, r.Visible + 1, r.Visible + 2, (r.Visible + r.Lines) / 2, r.Lines - 2, r.Lines - 1}
}

// someUnit is one that may be by each raster, another one for each seed; of four seeds one has nothing secret.
func someUnit(seed int) api.Ppu {
	d := dice(seed*2654435761 + 99)
	secret := [...]int{0, 1, 20, 60}[seed%4]
	p := api.Ppu{
		Ctrl: d.octet(), Mask: d.octet(), OamAt: d.octet(),
		Blank: d.flip(), Hit: d.flip(), Over: d.flip(), Odd: d.flip(),
		HitS: d.next(100) < secret, OverS: d.next(100) < secret, TintS: d.next(100) < secret, Vague: d.next(100) < secret,
		Buf: d.byte(secret), Io: d.byte(secret), Nt: d.byte(secret), Lo: d.byte(secret), Hi: d.byte(secret),
		Scroll: api.Scroll{V: d.word() % 32768, T: d.word() % 32768, X: uint8(d.next(8)), W: d.flip()},
		Tile:   api.Tile{Lo: d.word(), Hi: d.word(), One: d.word(), Two: d.word()},
		Tint:   uint8(d.next(4)),
		Many:   [...]int{8, 3, 0, 5, 1}[seed%5],
	}
	if secret > 0 {
		p.Tile.S = d.word() & d.word()
	}
	for i := range p.Many {
		p.Found[i], p.Units[i] = d.next(64), d.unit(secret/4)
	}
	for i := range p.Oam {
		p.Oam[i] = d.byte(secret / 8)
		if i%4 == 0 && seed%6 < 3 { // more on the first lines than are found
			p.Oam[i].V %= 30
		}
	}
	for i := range p.Vram {
		p.Vram[i] = d.byte(secret)
	}
	for i := range p.Pal {
		p.Pal[i] = d.byte(secret)
	}
	return p
}

// ends are numbers that are far away.
func ends() []int {
	return []int{math.MinInt, math.MinInt + 1, math.MinInt32, -65536, -256, -2, -1, 1 << 16, 1 << 32, math.MaxInt32, math.MaxInt - 1, math.MaxInt}
}

// P17.1

func TestNew(t *testing.T) {
	if New() != (api.Ppu{}) {
		t.Errorf("New: %v", New())
	}
	for _, r := range rasters() {
		if e := Check(r, New()); e != api.OK {
			t.Errorf("Check(%v) of a new one: %d", r, e)
		}
	}
}

// holdToCheck holds Check to the words.
func holdToCheck(t *testing.T, r api.Raster, p api.Ppu) {
	t.Helper()
	want := api.ErrArg
	if mayBeWords(r, p) {
		want = api.OK
	}
	if got := Check(r, p); got != want {
		t.Fatalf("Check(%v, line %d, dot %d, tint %d, scroll %v, many %d, found %v, units %v) = %d", r, p.Line, p.Dot, p.Tint, p.Scroll, p.Many, p.Found, p.Units, got)
	}
}

func TestCheckOfRasters(t *testing.T) {
	p := New()
	for visible := -2; visible < 305; visible++ {
		for lines := -2; lines < 305; lines++ {
			holdToCheck(t, api.Raster{Visible: visible, Lines: lines}, p)
		}
	}
	for _, far := range ends() {
		for _, near := range append(ends(), -3, 0, 1, 3, 4, 240, 241, 243, 300, 301) {
			holdToCheck(t, api.Raster{Visible: far, Lines: near}, p)
			holdToCheck(t, api.Raster{Visible: near, Lines: far}, p)
		}
	}
}

func TestCheckOfUnits(t *testing.T) {
	for _, r := range rasters() {
		for seed := range 10 {
			p := someUnit(seed)
			holdToCheck(t, r, p)
			for _, n := range append(ends(), 0, 1, 3, r.Visible, r.Lines-1, r.Lines, r.Lines+1, 299, 300, 339, 340, 341, 342) {
				q := p
				q.Line = n
				holdToCheck(t, r, q)
				q = p
				q.Dot = n
				holdToCheck(t, r, q)
			}
		}
	}
}

func TestCheckOfTintsAndScrolls(t *testing.T) {
	r := rasters()[1]
	for n := range 256 {
		p := someUnit(n)
		p.Tint = uint8(n)
		holdToCheck(t, r, p)
		p = someUnit(n)
		p.Scroll.X = uint8(n)
		holdToCheck(t, r, p)
	}
	for _, v := range []uint16{0, 1, 16383, 16384, 32766, 32767, 32768, 32769, 49152, 65534, 65535} {
		p := New()
		p.Scroll.V = v
		holdToCheck(t, r, p)
		p = New()
		p.Scroll.T = v
		holdToCheck(t, r, p)
	}
}

func TestCheckOfWhatWasFound(t *testing.T) {
	r := rasters()[0]
	for many := -1; many < 11; many++ {
		p := New()
		p.Many = many
		holdToCheck(t, r, p)
		for i := range 8 {
			for _, n := range append(ends(), 0, 1, 62, 63, 64, 65) {
				q := p
				q.Found[i] = n
				holdToCheck(t, r, q)
			}
			for _, u := range []api.Unit{{X: 1}, {Lo: 1}, {Hi: 128}, {Tint: 1}, {Tint: 255}, {Behind: true}, {Zero: true}, {S: true}, {X: 255, Lo: 255, Hi: 255, Tint: 255, Behind: true, Zero: true, S: true}} {
				q := p
				q.Units[i] = u
				holdToCheck(t, r, q)
			}
		}
	}
	for _, many := range ends() {
		p := New()
		p.Many = many
		holdToCheck(t, r, p)
	}
}

// holdToAsk holds Ask to the words, of a unit that may be.
func holdToAsk(t *testing.T, r api.Raster, p api.Ppu) api.Fetch {
	t.Helper()
	got, want := Ask(r, p), askWords(r, p)
	if got != want {
		t.Fatalf("Ask(%v, line %d, dot %d, ctrl %x, mask %x, nt %v, many %d, vague %v) = %+v, want %+v", r, p.Line, p.Dot, p.Ctrl, p.Mask, p.Nt, p.Many, p.Vague, got, want)
	}
	return got
}

func TestAsk(t *testing.T) {
	var secret, high, low, nothing int
	for seed := range 40 {
		d := dice(seed)
		p := someUnit(seed)
		r := rasters()[seed%len(rasters())]
		for _, line := range linesOf(r) {
			for dot := range 341 {
				p.Line, p.Dot, p.Ctrl, p.Nt = line, dot, d.octet(), d.byte(20*(seed%3))
				p.Mask = d.octet() | uint8(8*d.next(4))
				p.Scroll.V = d.word() % 32768
				switch f := holdToAsk(t, r, p); {
				case !f.Need:
					nothing++
				case f.High:
					high++
				case f.Secret:
					secret++
				default:
					low++
				}
			}
		}
	}
	if secret == 0 || high == 0 || low == 0 || nothing == 0 {
		t.Errorf("secret %d, high %d, low %d, nothing %d", secret, high, low, nothing)
	}
}

// By all that is in its registers.
func TestAskByCtrlAndMask(t *testing.T) {
	r := rasters()[0]
	for seed := range 5 {
		p := someUnit(seed)
		for _, dot := range []int{0, 4, 5, 6, 7, 8, 13, 253, 255, 256, 257, 260, 261, 262, 263, 264, 269, 271, 317, 319, 320, 321, 325, 327, 328, 333, 335, 336, 337, 340} {
			for v := range 256 {
				p.Line, p.Dot = r.Lines-1, dot
				p.Ctrl, p.Mask = uint8(v), 0x18
				holdToAsk(t, r, p)
				p.Ctrl, p.Mask = uint8(v*7), uint8(v)
				holdToAsk(t, r, p)
				p.Line = 2
				holdToAsk(t, r, p)
				p.Line = 5
				holdToAsk(t, r, p)
			}
		}
	}
}

// In each dot of a line something is asked just where the chapter says so, one time a step.
func TestAskTimes(t *testing.T) {
	r := rasters()[1]
	p := New()
	p.Mask = 8
	for _, line := range []int{0, 239, 240, 241, 260, 261} {
		p.Line = line
		count := 0
		for dot := range 341 {
			p.Dot = dot
			if Ask(r, p).Need {
				count++
			}
		}
		want := 2 * (32 + 8 + 2)
		if line == 240 || line == 241 || line == 260 {
			want = 0
		}
		if count != want {
			t.Errorf("line %d: asked %d times, want %d", line, count, want)
		}
	}
}

// What is asked for of sprites that are there, and that are not, by numbers of their own.
func TestAskOfSprites(t *testing.T) {
	r := rasters()[1]
	p := New()
	p.Mask, p.Line, p.Many = 16, 12, 1
	p.Found[0] = 5
	p.Oam[20].V, p.Oam[21].V = 10, 7 // row 2
	table := []struct {
		ctrl uint8
		dot  int
		want uint16
	}{
		{0, 261, 7*16 + 2}, {0, 263, 7*16 + 10}, {8, 261, 4096 + 7*16 + 2}, {16, 261, 7*16 + 2}, {32, 261, 4096 + 6*16 + 2},
		{0, 269, 4080}, {0, 271, 4088}, {8, 269, 8176}, {8, 271, 8184}, {16, 317, 4080}, {32, 269, 8160}, {40, 319, 8168},
	}
	for _, c := range table {
		p.Ctrl, p.Dot = c.ctrl, c.dot
		if got := Ask(r, p); got != (api.Fetch{Need: true, Addr: c.want}) {
			t.Errorf("ctrl %x, dot %d: %+v, want %d", c.ctrl, c.dot, got, c.want)
		}
	}
	p.Ctrl, p.Dot, p.Oam[22].S = 0, 261, true
	if got := Ask(r, p); !got.Secret || got.High {
		t.Errorf("of a secret: %+v", got)
	}
	p.Ctrl = 32
	if got := Ask(r, p); !got.Secret || !got.High {
		t.Errorf("of a tall secret: %+v", got)
	}
	p.Dot = 269
	if got := Ask(r, p); got.Secret || got.High {
		t.Errorf("where no sprite is: %+v", got)
	}
	p.Vague = true
	if got := Ask(r, p); !got.Secret || !got.High || got.Addr != 8160 {
		t.Errorf("where no sprite is, and a secret told that: %+v", got)
	}
}

func TestNmi(t *testing.T) {
	for seed := range 4 {
		p := someUnit(seed)
		if seed == 3 {
			p.Line, p.Dot, p.Many, p.Tint = -1, math.MaxInt, math.MinInt, 77
		}
		for ctrl := range 256 {
			p.Ctrl = uint8(ctrl)
			for _, p.Blank = range []bool{false, true} {
				if got, want := Nmi(p), p.Blank && ctrl >= 128; got != want {
					t.Errorf("Nmi of ctrl %x, blank %v: %v", ctrl, p.Blank, got)
				}
			}
		}
	}
}

func TestPeek(t *testing.T) {
	p := someUnit(1)
	for v := range 65536 {
		p.Scroll.V = uint16(v)
		at, is := Peek(p)
		if int(at) != v%16384 || is != (v%16384 < 8192) {
			t.Fatalf("Peek of %d: %d, %v", v, at, is)
		}
	}
	p.Line, p.Dot, p.Scroll.X = math.MinInt, math.MaxInt, 255
	if at, is := Peek(p); at != 16383 || is {
		t.Errorf("Peek of one that may not be: %d, %v", at, is)
	}
}

// wrong are units that may not be by a raster of 4 and 8 lines.
func wrong() []api.Ppu {
	var l []api.Ppu
	for i := range 11 {
		p := someUnit(8 + 40*i) // one with 5 sprites, and a picture's dot
		p.Line, p.Dot, p.Mask = 2, 5, 0x1e
		switch i {
		case 0:
			p.Line = 8
		case 1:
			p.Line = -1
		case 2:
			p.Dot = 341
		case 3:
			p.Dot = -1
		case 4:
			p.Tint = 4
		case 5:
			p.Many = 9
		case 6:
			p.Many = -1
		case 7:
			p.Found[0] = 64
		case 8:
			p.Many, p.Units[7].S = 7, true
		case 9:
			p.Scroll.V = 32768
		case 10:
			p.Scroll.X = 8
		}
		l = append(l, p)
	}
	return l
}

// wrongRasters are some that may not be.
func wrongRasters() []api.Raster {
	return []api.Raster{{}, {Visible: 0, Lines: 8}, {Visible: 241, Lines: 262}, {Visible: 4, Lines: 6}, {Visible: 240, Lines: 301}, {Visible: -1, Lines: 8}, {Visible: math.MaxInt, Lines: math.MinInt}, {Visible: math.MinInt, Lines: math.MaxInt}, {Visible: math.MaxInt, Lines: math.MaxInt}}
}

func TestAskOfWhatMayNotBe(t *testing.T) {
	r := rasters()[0]
	for _, p := range wrong() {
		if got := Ask(r, p); got != (api.Fetch{}) {
			t.Errorf("Ask of one that may not be: %+v", got)
		}
	}
	p := someUnit(0)
	p.Line, p.Dot, p.Mask = 2, 5, 0x1e
	if got := Ask(r, p); !got.Need {
		t.Errorf("Ask of one that may be: %+v", got)
	}
	for _, r := range wrongRasters() {
		if got := Ask(r, p); got != (api.Fetch{}) {
			t.Errorf("Ask by %v: %+v", r, got)
		}
	}
}

// P17.2

// holdToDot holds Dot to the words, of a unit that may be. What comes of it may be.
func holdToDot(t *testing.T, r api.Raster, p api.Ppu, screens int, v api.Byte) (api.Ppu, api.Seen) {
	t.Helper()
	before := p
	want, wantSeen := dotWords(r, p, screens, v)
	got, seen, e := Dot(r, p, screens, v)
	if got != want || seen != wantSeen || e != api.OK {
		t.Fatalf("Dot(%v, line %d, dot %d, ctrl %x, mask %x, odd %v, screens %d, %v): %+v, %d, want %+v%s", r, p.Line, p.Dot, p.Ctrl, p.Mask, p.Odd, screens, v, seen, e, wantSeen, where(got, want))
	}
	if p != before {
		t.Fatal("what was handed in is changed")
	}
	if e := Check(r, got); e != api.OK {
		t.Fatalf("what comes of a dot may not be: %d", e)
	}
	return got, seen
}

// where tells in what two units differ.
func where(a, b api.Ppu) string {
	tell := func(is bool, name string) string {
		if is {
			return ", other " + name
		}
		return ""
	}
	return tell(a.Scroll != b.Scroll, "Scroll") + tell(a.Tile != b.Tile, "Tile") + tell(a.Units != b.Units, "Units") + tell(a.Found != b.Found, "Found") +
		tell(a.Many != b.Many, "Many") + tell(a.Vague != b.Vague, "Vague") + tell(a.Blank != b.Blank, "Blank") + tell(a.Hit != b.Hit, "Hit") + tell(a.Over != b.Over, "Over") +
		tell(a.HitS != b.HitS, "HitS") + tell(a.OverS != b.OverS, "OverS") + tell(a.Line != b.Line, "Line") + tell(a.Dot != b.Dot, "Dot") + tell(a.Odd != b.Odd, "Odd") +
		tell(a.Nt != b.Nt, "Nt") + tell(a.Lo != b.Lo, "Lo") + tell(a.Hi != b.Hi, "Hi") + tell(a.Tint != b.Tint, "Tint") + tell(a.TintS != b.TintS, "TintS") +
		tell(a.Buf != b.Buf, "Buf") + tell(a.Io != b.Io, "Io") + tell(a.Oam != b.Oam, "Oam") + tell(a.Vram != b.Vram, "Vram") + tell(a.Pal != b.Pal, "Pal") +
		tell(a.Ctrl != b.Ctrl, "Ctrl") + tell(a.Mask != b.Mask, "Mask") + tell(a.OamAt != b.OamAt, "OamAt")
}

// Each dot of lines of each kind, of units of each kind.
func TestDot(t *testing.T) {
	var hits, hitS, overs, overS, frames, secrets int
	for seed := range 24 {
		d := dice(seed + 1000)
		p := someUnit(seed)
		r := rasters()[seed%len(rasters())]
		p.HitS, p.OverS = false, false
		for _, line := range linesOf(r) {
			for dot := range 341 {
				p.Line, p.Dot, p.Ctrl = line, dot, d.octet()
				p.Mask = d.octet() | uint8(8*d.next(4))
				p.Scroll = api.Scroll{V: d.word() % 32768, T: d.word() % 32768, X: uint8(d.next(8)), W: d.flip()}
				p.Hit, p.Over, p.Odd, p.Blank = d.next(4) == 0, d.next(4) == 0, d.flip(), d.flip()
				got, seen := holdToDot(t, r, p, d.next(5), d.byte(20*(seed%3)))
				hits += count(got.Hit && !p.Hit)
				hitS += count(got.HitS)
				overs += count(got.Over && !p.Over)
				overS += count(got.OverS)
				frames += count(seen.Frame)
				secrets += count(seen.C.S)
			}
		}
	}
	if hits == 0 || hitS == 0 || overs == 0 || overS == 0 || frames == 0 || secrets == 0 {
		t.Errorf("hits %d, secret %d, over %d, secret %d, frames %d, secret dots %d", hits, hitS, overs, overS, frames, secrets)
	}
}

// count is how many times something is: 1, or 0.
func count(is bool) int {
	if is {
		return 1
	}
	return 0
}

// By each mask, where something is seen, read, found and filled, and where lines end.
func TestDotByMask(t *testing.T) {
	r := rasters()[0]
	for seed := range 6 {
		p := someUnit(seed)
		for mask := range 256 {
			p.Mask = uint8(mask)
			for _, dot := range []int{0, 1, 7, 8, 9, 16, 100, 255, 256, 257, 261, 263, 264, 280, 300, 304, 305, 321, 328, 336, 337, 339, 340} {
				for _, line := range []int{1, 4, 5, 7} {
					p.Line, p.Dot, p.Odd = line, dot, mask%2 == seed%2
					holdToDot(t, r, p, mask%5, api.Byte{V: uint8(dot)})
				}
			}
		}
	}
}

// Blank is set behind the picture, whether the unit is on or not, and is not set any more on the last line, and with it all that was told.
func TestBlank(t *testing.T) {
	for _, r := range rasters() {
		for line := range r.Lines {
			for _, dot := range []int{0, 1, 2, 340} {
				p := New()
				p.Line, p.Dot = line, dot
				q, _, _ := Dot(r, p, 0, api.Byte{})
				if q.Blank != (line == r.Visible+1 && dot == 1) {
					t.Fatalf("%v, line %d, dot %d: blank is %v", r, line, dot, q.Blank)
				}
				p.Blank, p.Hit, p.Over, p.HitS, p.OverS = true, true, true, true, true
				q, _, _ = Dot(r, p, 0, api.Byte{})
				gone := line == r.Lines-1 && dot == 1
				if q.Blank == gone || q.Hit == gone || q.Over == gone || q.HitS == gone || q.OverS == gone {
					t.Fatalf("%v, line %d, dot %d: %v, %v, %v, %v, %v", r, line, dot, q.Blank, q.Hit, q.Over, q.HitS, q.OverS)
				}
			}
		}
	}
}

// shown is a unit in column 100 of its second line, with a dot of the ground, and one of a sprite, the first one of all.
func shown() api.Ppu {
	p := New()
	p.Line, p.Dot, p.Mask, p.Many = 1, 101, 0x1e, 1
	p.Tile.Lo, p.Tile.One = 0x8000, 0x8000
	p.Units[0] = api.Unit{X: 100, Hi: 0x80, Tint: 2, Zero: true}
	for i := range p.Pal {
		p.Pal[i].V = uint8(0xc0 + i)
	}
	return p
}

// What a dot is, and whether it is secret, by numbers of their own.
func TestShown(t *testing.T) {
	r := rasters()[0]
	table := []struct {
		name   string
		change func(p *api.Ppu)
		colour uint8
		secret bool
		hit    bool
		hitS   bool
	}{
		{"as it is", func(p *api.Ppu) {}, 26, false, true, false},
		{"behind", func(p *api.Ppu) { p.Units[0].Behind = true }, 5, false, true, false},
		{"not the first one", func(p *api.Ppu) { p.Units[0].Zero = false }, 26, false, false, false},
		{"no ground", func(p *api.Ppu) { p.Tile.Lo = 0 }, 26, false, false, false},
		{"no sprite", func(p *api.Ppu) { p.Units[0].Hi = 0 }, 5, false, false, false},
		{"neither", func(p *api.Ppu) { p.Tile.Lo, p.Units[0].Hi = 0, 0 }, 0, false, false, false},
		{"no sprites", func(p *api.Ppu) { p.Many, p.Units[0] = 0, api.Unit{} }, 5, false, false, false},
		{"ground is not shown", func(p *api.Ppu) { p.Mask = 0x10; p.Tile.S = 0x8000 }, 26, false, false, false},
		{"sprites are not shown", func(p *api.Ppu) { p.Mask = 8; p.Units[0].S, p.Vague = true, true }, 5, false, false, false},
		{"nothing is shown", func(p *api.Ppu) { p.Mask, p.Tile.S, p.Units[0].S, p.Vague = 6, 0x8000, true, true }, 0, false, false, false},
		{"without colours", func(p *api.Ppu) { p.Mask |= 1 }, 16, false, true, false},
		{"the ground is secret", func(p *api.Ppu) { p.Tile.S = 0x8000 }, 26, true, true, true},
		{"another dot is secret", func(p *api.Ppu) { p.Tile.S = 0x7fff }, 26, false, true, false},
		{"the ground is secret, sprites are not shown", func(p *api.Ppu) { p.Tile.S, p.Mask = 0x8000, 8 }, 5, true, false, false},
		{"a sprite is secret", func(p *api.Ppu) { p.Units[0].S = true }, 26, true, true, true},
		{"a sprite elsewhere is secret", func(p *api.Ppu) { p.Many, p.Units[1] = 2, api.Unit{X: 200, S: true} }, 26, true, true, true},
		{"a sprite is secret, the ground is not shown", func(p *api.Ppu) { p.Units[0].S, p.Mask = true, 0x10 }, 26, true, false, false},
		{"which ones they are is secret", func(p *api.Ppu) { p.Vague = true }, 26, true, true, true},
		{"which ones they are is secret, none is there", func(p *api.Ppu) { p.Vague, p.Many, p.Units[0] = true, 0, api.Unit{} }, 5, true, false, true},
		{"a colour is secret", func(p *api.Ppu) { p.Pal[26].S = true }, 26, true, true, false},
		{"another colour is secret", func(p *api.Ppu) { p.Pal[5].S = true }, 26, false, true, false},
		{"fine X", func(p *api.Ppu) { p.Scroll.X = 1 }, 26, false, false, false},
		{"fine X, and a dot there", func(p *api.Ppu) { p.Scroll.X, p.Tile.Lo = 1, 0x4000 }, 26, false, true, false},
		{"a hit ahead", func(p *api.Ppu) { p.Tile.Lo, p.Hit, p.HitS = 0, true, true }, 26, false, true, true},
		{"the last column", func(p *api.Ppu) { p.Dot, p.Units[0].X = 256, 255 }, 26, false, false, false},
		{"the last but one", func(p *api.Ppu) { p.Dot, p.Units[0].X = 255, 254 }, 26, false, true, false},
		{"the first column", func(p *api.Ppu) { p.Dot, p.Units[0].X = 1, 0 }, 26, false, true, false},
		{"the first column, no ground there", func(p *api.Ppu) { p.Dot, p.Units[0].X, p.Mask = 1, 0, 0x1c }, 26, false, false, false},
		{"the eighth column, no sprites there", func(p *api.Ppu) { p.Dot, p.Units[0].X, p.Mask = 8, 7, 0x1a }, 5, false, false, false},
		{"the ninth column", func(p *api.Ppu) { p.Dot, p.Units[0].X, p.Mask = 9, 8, 0x18 }, 26, false, true, false},
	}
	for _, c := range table {
		p := shown()
		c.change(&p)
		q, seen, e := Dot(r, p, 0, api.Byte{V: 1, S: true})
		want := api.Seen{Is: true, C: api.Byte{V: c.colour, S: c.secret}, X: p.Dot - 1, Y: 1}
		if seen != want || q.Hit != c.hit || q.HitS != c.hitS || e != api.OK {
			t.Errorf("%s: %+v, hit %v, secret %v, %d, want %+v", c.name, seen, q.Hit, q.HitS, e, want)
		}
	}
}

// Where it asked for nothing what is told plays no part; where it asked, it is taken.
func TestToldPlaysNoPart(t *testing.T) {
	told := 0
	for seed := range 12 {
		p := someUnit(seed)
		r := rasters()[seed%3]
		p.Mask = [...]uint8{0x1e, 0, 0x08, 0x10}[seed%4]
		for _, line := range linesOf(r) {
			for dot := range 341 {
				p.Line, p.Dot = line, dot
				a, seenA, _ := Dot(r, p, 1, api.Byte{V: ^p.Lo.V ^ p.Hi.V})
				b, seenB, _ := Dot(r, p, 1, api.Byte{V: p.Lo.V ^ p.Hi.V, S: true})
				same := a == b && seenA == seenB
				if need := Ask(r, p).Need; same == need {
					t.Fatalf("line %d, dot %d, mask %x: need %v, the same %v", line, dot, p.Mask, need, same)
				}
				told += count(!same)
			}
		}
	}
	if told == 0 {
		t.Error("it was never told")
	}
}

// What is found anew is all that there is.
func TestFoundAnew(t *testing.T) {
	r := rasters()[0]
	for seed := range 20 {
		for _, line := range []int{0, 3, 7} {
			for _, mask := range []uint8{0, 0x18} {
				p := someUnit(seed)
				p.Line, p.Dot, p.Mask = line, 257, mask
				p.Vague, p.Over, p.OverS = true, false, false
				for i := range p.Oam {
					p.Oam[i] = api.Byte{V: 200}
				}
				at := []int{9, 31, 60}
				for _, i := range at {
					p.Oam[4*i].V = 0
				}
				q, _ := holdToDot(t, r, p, 0, api.Byte{})
				want := api.Ppu{}
				if line < 4 && mask != 0 {
					want.Many = 3
					want.Found = [8]int{9, 31, 60}
				}
				if q.Many != want.Many || q.Found != want.Found || q.Units != want.Units || q.Vague || q.Over || q.OverS {
					t.Fatalf("line %d, mask %x: %d, %v, %v, vague %v", line, mask, q.Many, q.Found, q.Units, q.Vague)
				}
			}
		}
	}
}

// holdToRefused holds that a unit is as it was, and all else zeros, of Dot, Read and Write.
func holdToRefused(t *testing.T, r api.Raster, p api.Ppu, reg, screens int) {
	t.Helper()
	b := api.Byte{V: 0x5a, S: true}
	if q, told, e := Read(r, p, reg, screens, b); q != p || told != (api.Byte{}) || e != api.ErrArg {
		t.Fatalf("Read(%v, register %d, screens %d): %v, %d", r, reg, screens, told, e)
	}
	if q, out, e := Write(r, p, reg, screens, b); q != p || out != (api.Out{}) || e != api.ErrArg {
		t.Fatalf("Write(%v, register %d, screens %d): %v, %d", r, reg, screens, out, e)
	}
	if reg < 0 || reg > 7 {
		return
	}
	if q, seen, e := Dot(r, p, screens, b); q != p || seen != (api.Seen{}) || e != api.ErrArg {
		t.Fatalf("Dot(%v, screens %d): %+v, %d", r, screens, seen, e)
	}
}

func TestWhatMayNotBe(t *testing.T) {
	r := rasters()[0]
	for _, p := range wrong() {
		for reg := range 8 {
			holdToRefused(t, r, p, reg, api.VerM)
		}
	}
	for seed := range 3 {
		p := someUnit(seed)
		p.Line, p.Dot, p.Mask = 0, 5, 0x1e
		for reg := range 8 {
			for _, r := range wrongRasters() {
				holdToRefused(t, r, p, reg, api.VerM)
			}
			for _, screens := range append(ends(), -3, 5, 6, 7, 8, 255) {
				holdToRefused(t, r, p, reg, screens)
			}
		}
		for _, reg := range append(ends(), -7, 8, 9, 15, 16, 0x2002, 255) {
			holdToRefused(t, r, p, reg, api.HorM)
			holdToRefused(t, r, p, reg, 5)
			holdToRefused(t, api.Raster{}, p, reg, api.HorM)
		}
	}
}

// P17.3

// holdToRead holds Read to the words, of a unit that may be.
func holdToRead(t *testing.T, r api.Raster, p api.Ppu, reg, screens int, v api.Byte) {
	t.Helper()
	before := p
	want, wantTold := readWords(p, reg, screens, v)
	got, told, e := Read(r, p, reg, screens, v)
	if got != want || told != wantTold || e != api.OK {
		t.Fatalf("Read(register %d, screens %d, %v) at %x, io %v: %v, %d, want %v%s", reg, screens, v, p.Scroll.V, p.Io, told, e, wantTold, where(got, want))
	}
	if p != before || Check(r, got) != api.OK {
		t.Fatal("what was handed in is changed, or what comes of a read may not be")
	}
}

// holdToWrite holds Write to the words, of a unit that may be.
func holdToWrite(t *testing.T, r api.Raster, p api.Ppu, reg, screens int, b api.Byte) {
	t.Helper()
	before := p
	want, wantOut := writeWords(p, reg, screens, b)
	got, out, e := Write(r, p, reg, screens, b)
	if got != want || out != wantOut || e != api.OK {
		t.Fatalf("Write(register %d, screens %d, %v) at %x: %v, %d, want %v%s", reg, screens, b, p.Scroll.V, out, e, wantOut, where(got, want))
	}
	if p != before || Check(r, got) != api.OK {
		t.Fatal("what was handed in is changed, or what comes of a write may not be")
	}
}

func TestRegisters(t *testing.T) {
	for seed := range 60 {
		d := dice(seed + 500)
		p := someUnit(seed)
		r := rasters()[seed%len(rasters())]
		for range 20 {
			p.Scroll = api.Scroll{V: d.word() % 32768, T: d.word() % 32768, X: uint8(d.next(8)), W: d.flip()}
			p.Io, p.Buf, p.Ctrl, p.OamAt = d.byte(30), d.byte(30), d.octet(), d.octet()
			p.Line, p.Dot = d.next(r.Lines), d.next(341)
			for reg := range 8 {
				holdToRead(t, r, p, reg, d.next(5), d.byte(50))
				holdToWrite(t, r, p, reg, d.next(5), d.byte(50))
			}
		}
	}
}

// The status, by all that it tells, and by all that was on the bus.
func TestStatus(t *testing.T) {
	r := rasters()[0]
	p := someUnit(0)
	for io := range 256 {
		for k := range 128 {
			p.Io = api.Byte{V: uint8(io), S: k&64 != 0}
			p.Blank, p.Hit, p.Over = k&1 != 0, k&2 != 0, k&4 != 0
			p.HitS, p.OverS, p.Scroll.W = k&8 != 0, k&16 != 0, k&32 != 0
			if io%16 == 3 || k%16 == 7 {
				holdToRead(t, r, p, 2, 0, api.Byte{V: 77, S: true})
			}
		}
	}
	for v := range 256 {
		holdToWrite(t, r, p, 2, 0, api.Byte{V: uint8(v), S: v%3 == 0})
		holdToWrite(t, r, p, 0, 0, api.Byte{V: uint8(v), S: v%3 == 0})
		holdToWrite(t, r, p, 1, 0, api.Byte{V: uint8(v), S: v%3 == 0})
	}
}

// The sprites' bytes, at all places.
func TestOam(t *testing.T) {
	r := rasters()[0]
	p := someUnit(3)
	for at := range 256 {
		p.OamAt = uint8(at)
		holdToRead(t, r, p, 4, 0, api.Byte{V: 77, S: true})
		holdToWrite(t, r, p, 4, 0, api.Byte{V: ^p.Oam[at].V, S: !p.Oam[at].S})
		holdToWrite(t, r, p, 3, 0, api.Byte{V: uint8(at), S: at%2 == 0})
	}
}

// Register 7, at addresses of all kinds, by how screens are laid out.
func TestData(t *testing.T) {
	r := rasters()[0]
	p := someUnit(2)
	for v := 0; v < 32768; v += 29 {
		p.Scroll.V = uint16(v)
		p.Ctrl = uint8(v >> 3)
		holdToRead(t, r, p, 7, v%5, api.Byte{V: uint8(v), S: v%3 == 0})
		holdToWrite(t, r, p, 7, v%5, api.Byte{V: uint8(v), S: v%3 == 0})
	}
	for screens := range 5 {
		for _, from := range []int{0, 16384} {
			for _, at := range []int{0, 1, 8190, 8191, 8192, 8193, 9215, 9216, 10239, 10240, 11263, 11264, 12287, 12288, 16095, 16096, 16126, 16127} {
				p.Scroll.V = uint16(from + at)
				holdToRead(t, r, p, 7, screens, api.Byte{V: 99})
				holdToWrite(t, r, p, 7, screens, api.Byte{V: 99})
			}
			for at := 16128; at < 16384; at++ {
				p.Scroll.V = uint16(from + at)
				p.Io.S, p.Io.V = at%2 == 0, uint8(at*5)
				holdToRead(t, r, p, 7, screens, api.Byte{V: 99})
				holdToWrite(t, r, p, 7, screens, api.Byte{V: uint8(at), S: at%3 == 0})
			}
		}
	}
}

// What is written is read, one read later, and colours at once.
func TestReadIsWritten(t *testing.T) {
	r := rasters()[0]
	for _, screens := range []int{api.HorM, api.VerM, api.LowM, api.HighM, api.FourM} {
		for at := 8192; at < 16384; at += 7 {
			p := someUnit(1)
			p.Ctrl, p.Scroll.V = 0, uint16(at)
			b := api.Byte{V: uint8(at * 3), S: at%2 == 0}
			p, _, _ = Write(r, p, 7, screens, b)
			p.Scroll.V = uint16(at)
			p, told, _ := Read(r, p, 7, screens, api.Byte{})
			if at < 16128 {
				p, told, _ = Read(r, p, 7, screens, api.Byte{})
			} else {
				told.V = told.V%64 + b.V/64*64 // what was written is on the bus: the upper bits are its, too
			}
			if told != b {
				t.Fatalf("screens %d, at %d: %v is written, %v read", screens, at, b, told)
			}
		}
	}
}

// P17.4

func TestErase(t *testing.T) {
	for seed := range 16 {
		p := someUnit(seed)
		if seed > 8 { // of any, also of one that may not be
			p.Many, p.Line, p.Scroll.X, p.Found[7] = -1, -7, 99, 1000
			p.Units[7] = api.Unit{X: 3, S: true}
			p.Vague, p.HitS, p.OverS, p.TintS = true, true, true, true
		}
		want := p
		for _, b := range []*api.Byte{&want.Buf, &want.Io, &want.Nt, &want.Lo, &want.Hi} {
			b.S = false
		}
		for i := range want.Oam {
			want.Oam[i].S = false
		}
		for i := range want.Vram {
			want.Vram[i].S = false
		}
		for i := range want.Pal {
			want.Pal[i].S = false
		}
		for i := range want.Units {
			want.Units[i].S = false
		}
		want.Tile.S = 0
		want.HitS, want.OverS, want.TintS, want.Vague = false, false, false, false
		before := p
		if got := Erase(p); got != want || Erase(got) != want || p != before {
			t.Errorf("seed %d: Erase%s", seed, where(got, want))
		}
	}
}

// holdToAlike holds Alike to the words, both ways round.
func holdToAlike(t *testing.T, what string, i int, a, b api.Ppu) bool {
	t.Helper()
	want := alikeWords(a, b)
	if got, round := Alike(a, b), Alike(b, a); got != want || round != want {
		t.Fatalf("%s %d: Alike %v, and %v, want %v%s", what, i, got, round, want, where(a, b))
	}
	return want
}

// changes is all that is changed of a unit, one by one.
func changes() []func(p *api.Ppu) {
	l := []func(p *api.Ppu){
		func(p *api.Ppu) {}, func(p *api.Ppu) { p.Ctrl ^= 1 }, func(p *api.Ppu) { p.Mask ^= 128 }, func(p *api.Ppu) { p.OamAt ^= 4 },
		func(p *api.Ppu) { p.Blank = !p.Blank }, func(p *api.Ppu) { p.Odd = !p.Odd }, func(p *api.Ppu) { p.Line++ }, func(p *api.Ppu) { p.Dot++ },
		func(p *api.Ppu) { p.Hit = !p.Hit }, func(p *api.Ppu) { p.Over = !p.Over }, func(p *api.Ppu) { p.Tint ^= 1 }, func(p *api.Ppu) { p.Tint ^= 2 },
		func(p *api.Ppu) { p.HitS = !p.HitS }, func(p *api.Ppu) { p.OverS = !p.OverS }, func(p *api.Ppu) { p.TintS = !p.TintS }, func(p *api.Ppu) { p.Vague = !p.Vague },
		func(p *api.Ppu) { p.Scroll.V ^= 1 }, func(p *api.Ppu) { p.Scroll.T ^= 1 }, func(p *api.Ppu) { p.Scroll.X ^= 1 }, func(p *api.Ppu) { p.Scroll.W = !p.Scroll.W },
		func(p *api.Ppu) { p.Many++ }, func(p *api.Ppu) { p.Many = -5 }, func(p *api.Ppu) { p.Tile.S ^= 64 },
		func(p *api.Ppu) { p.Tile = api.Tile{S: p.Tile.S} },
	}
	for i := range 16 {
		l = append(l, func(p *api.Ppu) { p.Tile.Lo ^= 1 << i }, func(p *api.Ppu) { p.Tile.Hi ^= 1 << i }, func(p *api.Ppu) { p.Tile.One ^= 1 << i }, func(p *api.Ppu) { p.Tile.Two ^= 1 << i })
	}
	for i := range 8 {
		l = append(l, func(p *api.Ppu) { p.Found[i] ^= 8 }, func(p *api.Ppu) { p.Units[i].X++ }, func(p *api.Ppu) { p.Units[i].Lo ^= 1 }, func(p *api.Ppu) { p.Units[i].Hi ^= 128 }, func(p *api.Ppu) { p.Units[i].Tint ^= 1 },
			func(p *api.Ppu) { p.Units[i].Behind = !p.Units[i].Behind }, func(p *api.Ppu) { p.Units[i].Zero = !p.Units[i].Zero }, func(p *api.Ppu) { p.Units[i].S = !p.Units[i].S })
	}
	return l
}

func TestAlike(t *testing.T) {
	var yes, no int
	for seed := range 24 {
		a := someUnit(seed)
		a.HitS, a.OverS, a.TintS, a.Vague = seed&1 != 0, seed&2 != 0, seed&4 != 0, seed%3 == 0
		for i, change := range changes() {
			b := a
			change(&b)
			if holdToAlike(t, "change", i, a, b) {
				yes++
			} else {
				no++
			}
		}
	}
	if yes == 0 || no == 0 {
		t.Errorf("alike %d, not %d", yes, no)
	}
}

// placesOf is where a unit has bytes: all but most of the screens'.
func placesOf(p *api.Ppu) []*api.Byte {
	l := []*api.Byte{&p.Buf, &p.Io, &p.Nt, &p.Lo, &p.Hi}
	for i := range p.Oam {
		l = append(l, &p.Oam[i])
	}
	for i := range p.Pal {
		l = append(l, &p.Pal[i])
	}
	for i := 0; i < 4096; i += 45 {
		l = append(l, &p.Vram[i])
	}
	return append(l, &p.Vram[4095])
}

func TestAlikeOfBytes(t *testing.T) {
	a := someUnit(0)
	b := a
	at, bt := placesOf(&a), placesOf(&b)
	for i := range at {
		old := *at[i]
		table := []struct {
			a, b  api.Byte
			alike bool
		}{
			{api.Byte{V: 3}, api.Byte{V: 3}, true},
			{api.Byte{V: 3}, api.Byte{V: 2}, false},
			{api.Byte{V: 3, S: true}, api.Byte{V: 2, S: true}, true},
			{api.Byte{V: 3, S: true}, api.Byte{V: 3}, false},
			{api.Byte{}, api.Byte{S: true}, false},
		}
		for _, c := range table {
			*at[i], *bt[i] = c.a, c.b
			if got := Alike(a, b); got != c.alike {
				t.Errorf("byte %d, %v and %v: Alike %v", i, c.a, c.b, got)
			}
		}
		*at[i], *bt[i] = old, old
	}
}

// The chapter's examples.

func TestExamples(t *testing.T) {
	r := api.Raster{Visible: 240, Lines: 262}
	p := New()
	p.Line, p.Dot = 241, 1
	p, _, e := Dot(r, p, api.HorM, api.Byte{})
	if !p.Blank || e != api.OK {
		t.Errorf("line 241, dot 1: blank %v, %d", p.Blank, e)
	}
	p, told, _ := Read(r, p, 2, api.HorM, api.Byte{})
	if told != (api.Byte{V: 128}) {
		t.Errorf("register 2: %v", told)
	}
	if _, told, _ = Read(r, p, 2, api.HorM, api.Byte{}); told != (api.Byte{}) {
		t.Errorf("register 2 once more: %v", told)
	}
	if got := Ask(r, New()); got != (api.Fetch{}) {
		t.Errorf("Ask of a new one: %+v", got)
	}
}
