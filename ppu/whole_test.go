package ppu

import (
	"testing"

	"seepage/api"
)

// P17.5

// pattern is what a cartridge has at an address: numbers that look like none in particular.
func pattern(at uint16) uint8 {
	n := uint32(at)*2654435761 + 77
	return uint8(n >> 24)
}

// told is what a cartridge tells of what was asked: nothing in particular, where nothing was.
func told(f api.Fetch) api.Byte {
	if !f.Need {
		return api.Byte{V: 0xa5, S: true}
	}
	return api.Byte{V: pattern(f.Addr), S: f.Secret}
}

// dots plays dots, and hands what is seen on.
func dots(t *testing.T, r api.Raster, p api.Ppu, screens, n int, sees func(s api.Seen)) api.Ppu {
	t.Helper()
	for range n {
		q, s, e := Dot(r, p, screens, told(Ask(r, p)))
		if e != api.OK {
			t.Fatalf("line %d, dot %d: %d", p.Line, p.Dot, e)
		}
		if s.Is {
			sees(s)
		}
		p = q
	}
	return p
}

// frame plays up to a frame's end: the unit, how many dots there were, and what was seen, by lines.
func frame(t *testing.T, r api.Raster, p api.Ppu, screens int) (api.Ppu, int, [][]api.Byte) {
	t.Helper()
	picture := make([][]api.Byte, r.Visible)
	for n := 1; ; n++ {
		q, s, e := Dot(r, p, screens, told(Ask(r, p)))
		if e != api.OK || n > 341*300 {
			t.Fatalf("line %d, dot %d: %d", p.Line, p.Dot, e)
		}
		if s.Is {
			if s.Y != p.Line || s.X != len(picture[s.Y]) {
				t.Fatalf("dot at %d, %d on line %d behind %d", s.X, s.Y, p.Line, len(picture[s.Y]))
			}
			picture[s.Y] = append(picture[s.Y], s.C)
		}
		if p = q; s.Frame {
			return p, n, picture
		}
	}
}

// A frame has 341 dots a line, an odd one that is on one fewer, and each dot of the picture once.
func TestFrames(t *testing.T) {
	for _, r := range []api.Raster{{Visible: 1, Lines: 4}, {Visible: 4, Lines: 8}, {Visible: 3, Lines: 6}, {Visible: 240, Lines: 262}} {
		for _, mask := range []uint8{0, 6, 8, 16, 0x1e} {
			if r.Lines == 262 && mask != 8 { // a frame of it takes long
				continue
			}
			p := New()
			p.Mask = mask
			for i := range 3 {
				q, n, picture := frame(t, r, p, 0)
				want := 341 * r.Lines
				if i == 1 && mask > 6 {
					want--
				}
				if n != want || q.Odd != (i%2 == 0) || q.Line != 0 || q.Dot != 0 {
					t.Errorf("%v, mask %x, frame %d: %d dots, odd %v, line %d, dot %d", r, mask, i, n, q.Odd, q.Line, q.Dot)
				}
				for y, l := range picture {
					if len(l) != 256 {
						t.Errorf("%v, mask %x: line %d has %d dots", r, mask, y, len(l))
					}
				}
				p = q
			}
		}
	}
}

// A unit that is let go on only where it is too late to leave a dot out leaves none out.
func TestTooLateToLeaveOut(t *testing.T) {
	r := rasters()[0]
	for _, c := range []struct {
		dot  int
		mask uint8
		odd  bool
		ends bool
	}{{338, 8, true, false}, {339, 8, true, true}, {339, 0, true, false}, {339, 8, false, false}, {340, 8, true, true}, {340, 0, true, true}, {340, 0, false, true}} {
		p := New()
		p.Line, p.Dot, p.Mask, p.Odd = 7, c.dot, c.mask, c.odd
		q, s, _ := Dot(r, p, 0, api.Byte{})
		if s.Frame != c.ends || (q.Line == 0) != c.ends || (q.Dot == 0) != c.ends || (q.Odd != c.odd) != c.ends {
			t.Errorf("%+v: %+v, line %d, dot %d, odd %v", c, s, q.Line, q.Dot, q.Odd)
		}
		p.Line = 6
		q, s, _ = Dot(r, p, 0, api.Byte{})
		if s.Frame || q.Odd != c.odd || (q.Line == 7) != (c.dot == 340) {
			t.Errorf("a line ahead, %+v: %+v, line %d, dot %d", c, s, q.Line, q.Dot)
		}
	}
}

// scrolled is a unit whose picture begins so far to the right of the first screen, and so far down, by octets that are written.
func scrolled(t *testing.T, r api.Raster, p api.Ppu, right, down int) api.Ppu {
	t.Helper()
	p.Scroll = api.Scroll{}
	ctrl := p.Ctrl&^3 | uint8(right/256+2*(down/240))
	for _, w := range [][2]int{{0, int(ctrl)}, {5, right % 256}, {5, down % 240}} {
		q, _, e := Write(r, p, w[0], 0, api.Byte{V: uint8(w[1])})
		if e != api.OK {
			t.Fatalf("Write: %d", e)
		}
		p = q
	}
	return p
}

// groundOf is the dot of the ground at a place of the four screens, as a whole picture has it.
func groundOf(p api.Ppu, screens, x, y int) int {
	x, y = x%512, y%480
	screen := 8192 + 1024*(x/256) + 2048*(y/240)
	x, y = x%256, y%240
	number := ownWords(&p, screen+y/8*32+x/8, screens).V
	four := int(ownWords(&p, screen+960+y/32*8+x/32, screens).V)
	tint := four >> (4*(y/16%2) + 2*(x/16%2)) & 3
	at := uint16(p.Ctrl>>4&1)*4096 + uint16(number)*16 + uint16(y%8)
	bits := bitWords(pattern(at), 7-x%8) + 2*bitWords(pattern(at+8), 7-x%8)
	return bits + 4*tint
}

// The ground is that of the screens, wherever it is scrolled, and goes around.
func TestPictureOfGround(t *testing.T) {
	d := dice(7)
	for i := range 20 {
		r := api.Raster{Visible: 40, Lines: 43}
		if i == 0 {
			r = api.Raster{Visible: 240, Lines: 262}
		}
		p := someUnit(4 * i) // nothing secret
		p.Mask, p.Line, p.Dot, p.Odd = 0x0a, 0, 0, i%2 == 0
		right, down, screens := d.next(512), d.next(480), i%5
		p = scrolled(t, r, p, right, down)
		p, _, _ = frame(t, r, p, screens)
		p, _, picture := frame(t, r, p, screens)
		for y, l := range picture {
			for x, c := range l {
				dot := groundOf(p, screens, right+x, down+y)
				if dot%4 == 0 {
					dot = 0
				}
				if want := (api.Byte{V: p.Pal[dot].V % 64}); c != want {
					t.Fatalf("scrolled %d, %d, screens %d: dot %d, %d is %v, want %v", right, down, screens, x, y, c, want)
				}
			}
		}
	}
}

// spriteOf is the dot of sprites at a place, and whose it is (from 0 on, else -1), as a whole picture has it.
func spriteOf(p api.Ppu, x, y int) (int, int) {
	high, count := 8, 0
	tall := bitWords(p.Ctrl, 5) == 1
	if tall {
		high = 16
	}
	for i := range 64 {
		top, like := int(p.Oam[4*i].V)+1, int(p.Oam[4*i+2].V)
		if y < top || y >= top+high {
			continue
		}
		if count++; count > 8 {
			break
		}
		row, column := y-top, x-int(p.Oam[4*i+3].V)
		if like >= 128 {
			row = high - 1 - row
		}
		if like/64%2 == 1 {
			column = 7 - column
		}
		if column < 0 || column > 7 {
			continue
		}
		at := uint16(bitWords(p.Ctrl, 3))*4096 + uint16(p.Oam[4*i+1].V)*16
		if tall {
			at = uint16(p.Oam[4*i+1].V%2)*4096 + uint16(p.Oam[4*i+1].V/2)*32 + uint16(row/8*16)
		}
		at += uint16(row % 8)
		if bits := bitWords(pattern(at), 7-column) + 2*bitWords(pattern(at+8), 7-column); bits != 0 {
			return bits + 4*(like%4), i
		}
	}
	return 0, -1
}

// Sprites are where their bytes say, one line down, over the ground or behind it, eight at most on a line, none on the first one; the first one of all tells where it hits.
func TestPictureOfSprites(t *testing.T) {
	hits, sprites := 0, 0
	for seed := range 12 {
		r := api.Raster{Visible: 40, Lines: 43}
		p := someUnit(4 * seed) // nothing secret
		p.Mask, p.Line, p.Dot, p.Odd = 0x1e, 0, 0, false
		p.Ctrl = uint8(seed) << 3
		for i := range 64 {
			p.Oam[4*i].V %= 60
		}
		p.Oam[0].V = uint8(seed)
		p = scrolled(t, r, p, 0, 0)
		p, _, _ = frame(t, r, p, 0)
		start := p
		_, _, picture := frame(t, r, p, 0)
		hit := false
		for y, l := range picture {
			for x, c := range l {
				ground := groundOf(p, 0, x, y)
				sprite, which := spriteOf(p, x, y)
				if y == 0 {
					sprite, which = 0, -1
				}
				place := ground
				switch {
				case ground%4 == 0 && which < 0:
					place = 0
				case which >= 0 && (ground%4 == 0 || bitWords(p.Oam[4*which+2].V, 5) == 0):
					place = 16 + sprite
					sprites++
				}
				if want := (api.Byte{V: p.Pal[place].V % 64}); c != want {
					t.Fatalf("seed %d: dot %d, %d is %v, want %v", seed, x, y, c, want)
				}
				hit = hit || ground%4 != 0 && which == 0 && x != 255
			}
		}
		end := dots(t, r, start, 0, 41*341, func(api.Seen) {})
		if end.Hit != hit {
			t.Errorf("seed %d: a hit: %v, want %v", seed, end.Hit, hit)
		}
		hits += count(hit)
	}
	if hits == 0 || hits == 12 || sprites == 0 {
		t.Errorf("%d hits, %d dots of sprites", hits, sprites)
	}
}

// A unit that may be stays one, whatever is read and written.
func TestStaysOne(t *testing.T) {
	for seed := range 6 {
		d := dice(seed + 31)
		r := rasters()[seed%4]
		p := New()
		for range 6000 {
			q, _, e := Dot(r, p, seed%5, d.byte(50))
			switch d.next(4) {
			case 0:
				q, _, _ = Write(r, q, d.next(8), seed%5, d.byte(50))
			case 1:
				q, _, _ = Read(r, q, d.next(8), seed%5, d.byte(50))
			}
			if e != api.OK || Check(r, q) != api.OK {
				t.Fatalf("seed %d, line %d, dot %d: %d, %d", seed, p.Line, p.Dot, e, Check(r, q))
			}
			if p = q; d.next(300) == 0 {
				p.Line = d.next(r.Lines)
			}
		}
	}
}

// twinByte is a byte that is alike: another one, if it is secret.
func twinByte(d *dice, b api.Byte) api.Byte {
	if b.S {
		b.V = d.octet()
	}
	return b
}

// twin is a unit that is alike: all that is secret is another thing.
func twin(d *dice, p api.Ppu) api.Ppu {
	for _, l := range [][]api.Byte{p.Oam[:], p.Vram[:], p.Pal[:]} {
		for i, b := range l {
			l[i] = twinByte(d, b)
		}
	}
	for _, b := range []*api.Byte{&p.Buf, &p.Io, &p.Nt, &p.Lo, &p.Hi} {
		*b = twinByte(d, *b)
	}
	for _, n := range []*uint16{&p.Tile.Lo, &p.Tile.Hi, &p.Tile.One, &p.Tile.Two} {
		*n ^= d.word() & p.Tile.S
	}
	p.Hit = p.Hit != (p.HitS && d.flip())
	p.Over = p.Over != (p.OverS && d.flip())
	if p.TintS {
		p.Tint = uint8(d.next(4))
	}
	if p.Vague {
		p.Many, p.Found, p.Units = d.next(9), [8]int{}, [8]api.Unit{}
		for i := range p.Many {
			p.Found[i], p.Units[i] = d.next(64), d.unit(50)
		}
	}
	for i, u := range p.Units {
		if u.S && !p.Vague {
			p.Units[i] = d.unit(100)
		}
	}
	return p
}

// alikeAsked tells whether both ask for the same, or for what is secret in both.
func alikeAsked(a, b api.Fetch) bool {
	if a.Need != b.Need || a.Secret != b.Secret || a.High != b.High {
		return false
	}
	switch {
	case !a.Secret:
		return a == b
	case !a.High:
		return a.Addr/4096 == b.Addr/4096
	}
	return true
}

// pair is two units that are alike.
type pair struct{ a, b api.Ppu }

// dot plays a dot of both, told what is alike. It tells whether what is seen is alike.
func (u *pair) dot(t *testing.T, d *dice, r api.Raster, screens int) bool {
	t.Helper()
	f, g := Ask(r, u.a), Ask(r, u.b)
	if !alikeAsked(f, g) {
		t.Fatalf("line %d, dot %d: they ask for %+v and %+v", u.a.Line, u.a.Dot, f, g)
	}
	v := told(f)
	v.S = v.S || d.next(20) == 0
	w := twinByte(d, v)
	a, s, e := Dot(r, u.a, screens, v)
	b, z, h := Dot(r, u.b, screens, w)
	u.a, u.b = a, b
	return e == h && s.Is == z.Is && s.Frame == z.Frame && s.X == z.X && s.Y == z.Y && alikeByteWords(s.C, z.C)
}

// Two that are alike stay so, dot by dot, from wherever they are.
func TestTwins(t *testing.T) {
	var differ int
	for seed := range 36 {
		d := dice(seed + 77)
		r := rasters()[seed%4]
		for _, line := range []int{0, r.Visible - 1, r.Lines - 1} {
			p := someUnit(seed)
			p.Line, p.Dot, p.Mask = line, 0, p.Mask|[...]uint8{0x18, 0x1e, 8, 16, 0}[seed/4%5]
			u := pair{p, twin(&d, p)}
			for i := range 2 * 341 {
				if !u.dot(t, &d, r, seed%5) {
					t.Fatalf("seed %d, line %d, dot %d: what is seen is not alike", seed, u.a.Line, u.a.Dot)
				}
				differ += count(u.a.Tile != u.b.Tile)
				if i%11 == 0 && !alikeWords(u.a, u.b) {
					t.Fatalf("seed %d, line %d, dot %d: they are not alike%s", seed, u.a.Line, u.a.Dot, where(u.a, u.b))
				}
			}
		}
	}
	if differ == 0 {
		t.Error("they never differed")
	}
}

// Two that are alike tell what is alike, and stay so, where registers are read, and written with what is alike, which is low where it tells how they go on.
func TestTwinsOfRegisters(t *testing.T) {
	for seed := range 40 {
		d := dice(seed + 3)
		r := rasters()[seed%4]
		p := someUnit(seed)
		q := twin(&d, p)
		for range 60 {
			reg, v := d.next(8), d.byte(50)
			w := twinByte(&d, v)
			a, x, _ := Read(r, p, reg, seed%5, v)
			b, y, _ := Read(r, q, reg, seed%5, w)
			if !alikeByteWords(x, y) || !alikeWords(a, b) {
				t.Fatalf("seed %d, register %d is read: %v and %v%s", seed, reg, x, y, where(a, b))
			}
			reg = d.next(8)
			if reg != 2 && reg != 4 && reg != 7 {
				v.S, w = false, api.Byte{V: v.V}
			}
			c, m, _ := Write(r, a, reg, seed%5, v)
			e, n, _ := Write(r, b, reg, seed%5, w)
			if m.Is != n.Is || m.Addr != n.Addr || !alikeByteWords(m.V, n.V) || !alikeWords(c, e) {
				t.Fatalf("seed %d, register %d is written: %v and %v%s", seed, reg, m, n, where(c, e))
			}
			if Nmi(c) != Nmi(e) {
				t.Fatalf("seed %d: one interrupts", seed)
			}
			p, q = c, e
		}
	}
}

// No label changes a dot, nor what is asked for, or what a register tells.
func TestLabelsChangeNothing(t *testing.T) {
	for seed := range 24 {
		d := dice(seed + 13)
		r := rasters()[seed%4]
		p := someUnit(seed)
		p.Line, p.Mask = d.next(r.Visible), p.Mask|0x18
		q := Erase(p)
		for i := range 2 * 341 {
			f, g := Ask(r, p), Ask(r, q)
			if f.Need != g.Need || f.Addr != g.Addr || g.Secret || g.High {
				t.Fatalf("seed %d, line %d, dot %d: they ask for %+v and %+v", seed, p.Line, p.Dot, f, g)
			}
			v := told(f)
			a, s, _ := Dot(r, p, seed%5, v)
			b, z, _ := Dot(r, q, seed%5, api.Byte{V: v.V})
			if s.C.S = false; s != z {
				t.Fatalf("seed %d, line %d, dot %d: %+v and %+v", seed, p.Line, p.Dot, s, z)
			}
			if reg := d.next(8); i%9 == 0 {
				var x, y api.Byte
				a, x, _ = Read(r, a, reg, seed%5, v)
				b, y, _ = Read(r, b, reg, seed%5, api.Byte{V: v.V})
				if x.V != y.V || y.S {
					t.Fatalf("seed %d, register %d: %v and %v", seed, reg, x, y)
				}
			}
			if p, q = a, b; i%13 == 0 && Erase(p) != q {
				t.Fatalf("seed %d, line %d, dot %d: they are not the same%s", seed, p.Line, p.Dot, where(Erase(p), q))
			}
		}
	}
}

// The example of the whole: what is copied to the sprites is no secret dot, until they are looked for with something shown.
func TestSecretSprites(t *testing.T) {
	r := rasters()[0]
	for _, mask := range []uint8{0, 0x1e} {
		p := New()
		p, _, _ = Write(r, p, 4, 0, api.Byte{V: 200, S: true})
		p, _, _ = Write(r, p, 1, 0, api.Byte{V: mask})
		var first, rest int
		dots(t, r, p, 0, 341*4, func(s api.Seen) {
			if s.Y == 0 {
				first += count(s.C.S)
			} else {
				rest += count(s.C.S)
			}
		})
		want := 0
		if mask != 0 {
			want = 3 * 256
		}
		if first != 0 || rest != want {
			t.Errorf("mask %x: %d secret dots on the first line, %d behind, want %d", mask, first, rest, want)
		}
	}
}
