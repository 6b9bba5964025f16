package ppu

import (
	"seepage/api"
	"seepage/scroll"
	"seepage/sprite"
)

// What a unit is, asks and does, by the chapter's words. Of the layers below, those are called here that tell more than a number.

// mayBeWords tells whether a raster, and a unit by it, may be.
func mayBeWords(r api.Raster, p api.Ppu) bool {
	raster := r.Visible >= 1 && r.Visible <= 240 && r.Lines >= r.Visible+3 && r.Lines <= 300
	scrolled := p.Scroll.V < 32768 && p.Scroll.T < 32768 && p.Scroll.X < 8
	where := p.Line >= 0 && p.Line < r.Lines && p.Dot >= 0 && p.Dot <= 340
	if !raster || !scrolled || !where || p.Tint > 3 || p.Many < 0 || p.Many > 8 {
		return false
	}
	for i := range 8 {
		switch {
		case i < p.Many && (p.Found[i] < 0 || p.Found[i] > 63):
			return false
		case i >= p.Many && (p.Found[i] != 0 || p.Units[i] != api.Unit{}):
			return false
		}
	}
	return true
}

// onWords tells whether something is shown.
func onWords(p api.Ppu) bool { return p.Mask&8 != 0 || p.Mask&16 != 0 }

// readyWords tells whether a line is seen, or is the last one.
func readyWords(r api.Raster, p api.Ppu) bool { return p.Line < r.Visible || p.Line == r.Lines-1 }

// tileDotWords tells whether a dot is one in which tiles are read.
func tileDotWords(dot int) bool { return dot >= 1 && dot <= 256 || dot >= 321 && dot <= 336 }

// spriteDotWords tells whether a dot is one in which sprites are read.
func spriteDotWords(dot int) bool { return dot >= 257 && dot <= 320 }

// bitWords is a bit of an octet.
func bitWords(v uint8, i int) int { return int(v) >> i & 1 }

// askWords is what a unit that may be asks for.
func askWords(r api.Raster, p api.Ppu) api.Fetch {
	if !readyWords(r, p) || !onWords(p) {
		return api.Fetch{}
	}
	tall := bitWords(p.Ctrl, 5) == 1
	if tileDotWords(p.Dot) && (p.Dot%8 == 5 || p.Dot%8 == 7) {
		at := 4096*bitWords(p.Ctrl, 4) + 16*int(p.Nt.V) + int(p.Scroll.V>>12)
		if p.Dot%8 == 7 {
			at += 8
		}
		return api.Fetch{Need: true, Addr: uint16(at), Secret: p.Nt.S}
	}
	if rest := (p.Dot - 257) % 8; spriteDotWords(p.Dot) && (rest == 4 || rest == 6) {
		var at uint16
		var secret bool
		switch i := (p.Dot - 257) / 8; {
		case i < p.Many:
			at, secret, _ = sprite.Address(p.Oam[:], p.Found[i], p.Line%256, tall, bitWords(p.Ctrl, 3) == 1)
		case tall:
			at = 8160
		default:
			at = uint16(4080 + 4096*bitWords(p.Ctrl, 3))
		}
		if rest == 6 {
			at += 8
		}
		secret = secret || p.Vague
		return api.Fetch{Need: true, Addr: at, Secret: secret, High: secret && tall}
	}
	return api.Fetch{}
}

// kindWords is whether an address is of patterns, of screens, or of palettes.
func kindWords(addr int) int {
	switch addr %= 16384; {
	case addr < 8192:
		return api.PatternW
	case addr < 16128:
		return api.ScreenW
	}
	return api.PaletteW
}

// ownWords is where an address of its own has its byte.
func ownWords(p *api.Ppu, addr, screens int) *api.Byte {
	addr %= 16384
	if kindWords(addr) == api.PaletteW {
		i := addr % 32
		if i == 16 || i == 20 || i == 24 || i == 28 {
			i -= 16
		}
		return &p.Pal[i]
	}
	across, down, number := addr/1024%2, addr/2048%2, 0
	switch screens {
	case api.HorM:
		number = down
	case api.VerM:
		number = across
	case api.HighM:
		number = 1
	case api.FourM:
		number = 2*down + across
	}
	return &p.Vram[1024*number+addr%1024]
}

// groundWords is the ground's dot, and whether it is secret.
func groundWords(p api.Ppu) (int, bool) {
	bit := 15 - int(p.Scroll.X)
	one := func(n uint16) int { return int(n) >> bit & 1 }
	return one(p.Tile.Lo) + 2*one(p.Tile.Hi) + 4*one(p.Tile.One) + 8*one(p.Tile.Two), one(p.Tile.S) == 1
}

// spritesWords is the sprites' dot in a column, whether it is behind, and the first one's, and whether one of all is secret.
func spritesWords(p api.Ppu, x int) (dot int, behind, zero, secret bool) {
	found := false
	for _, u := range p.Units[:p.Many] {
		secret = secret || u.S
		i := x - int(u.X)
		if found || i < 0 || i > 7 {
			continue
		}
		if v := bitWords(u.Lo, 7-i) + 2*bitWords(u.Hi, 7-i); v > 0 {
			found, dot, behind, zero = true, v+4*int(u.Tint%4), u.Behind, u.Zero
		}
	}
	return dot, behind, zero, secret || p.Vague
}

// showWords shows a dot of the picture: the chapter's second step.
func showWords(p *api.Ppu) api.Seen {
	x := p.Dot - 1
	first := x < 8
	onGround := bitWords(p.Mask, 3) == 1 && !(first && bitWords(p.Mask, 1) == 0)
	onSprites := bitWords(p.Mask, 4) == 1 && !(first && bitWords(p.Mask, 2) == 0)
	ground, groundS := groundWords(*p)
	if !onGround {
		ground, groundS = 0, false
	}
	dot, behind, zero, spriteS := spritesWords(*p, x)
	if !onSprites {
		dot, behind, zero, spriteS = 0, false, false, false
	}
	secret := groundS || spriteS
	place := 0
	switch {
	case ground%4 != 0 && (dot%4 == 0 || behind):
		place = ground
	case dot%4 != 0:
		place = 16 + dot
	}
	if ground%4 != 0 && dot%4 != 0 && x != 255 && zero {
		p.Hit = true
	}
	if onGround && onSprites && secret {
		p.HitS = true
	}
	v := p.Pal[place].V % 64
	if bitWords(p.Mask, 0) == 1 {
		v = v / 16 * 16
	}
	return api.Seen{Is: true, C: api.Byte{V: v, S: secret || p.Pal[place].S}, X: x, Y: p.Line}
}

// loadWords is a tile's number, its lower eight bits those of an octet.
func loadWords(n uint16, v uint8) uint16 { return n/256*256 + uint16(v) }

// tilesWords reads tiles: the chapter's third step, but for how the scroll goes back.
func tilesWords(p *api.Ppu, screens int, v api.Byte) {
	switch p.Dot % 8 {
	case 1:
		p.Nt = *ownWords(p, 8192+int(p.Scroll.V%4096), screens)
	case 3:
		addr, shift := scroll.Tint(p.Scroll)
		b := *ownWords(p, int(addr), screens)
		p.Tint, p.TintS = b.V>>shift&3, b.S
	case 5:
		p.Lo = v
	case 7:
		p.Hi = v
	}
	t := &p.Tile
	*t = api.Tile{Lo: 2 * t.Lo, Hi: 2 * t.Hi, One: 2 * t.One, Two: 2 * t.Two, S: 2 * t.S}
	if p.Dot%8 == 0 {
		secret := p.Lo.S || p.Hi.S || p.Nt.S || p.TintS
		t.Lo, t.Hi = loadWords(t.Lo, p.Lo.V), loadWords(t.Hi, p.Hi.V)
		t.One, t.Two = loadWords(t.One, 255*(p.Tint&1)), loadWords(t.Two, 255*(p.Tint>>1&1))
		t.S = loadWords(t.S, 0)
		if secret {
			t.S = loadWords(t.S, 255)
		}
		p.Scroll, _ = scroll.Right(p.Scroll)
	}
}

// findWords looks for sprites: the chapter's fourth step.
func findWords(r api.Raster, p *api.Ppu) {
	p.Units, p.Found, p.Many, p.Vague = [8]api.Unit{}, [8]int{}, 0, false
	if !onWords(*p) || p.Line >= r.Visible {
		return
	}
	found, more, secretY, _ := sprite.Find(p.Oam[:], p.Line, bitWords(p.Ctrl, 5) == 1)
	for _, n := range found {
		p.Found[p.Many] = n
		p.Many++
	}
	if more {
		p.Over = true
	}
	if secretY {
		p.OverS, p.Vague = true, true
	}
}

// fillWords reads sprites: the chapter's fifth step.
func fillWords(p *api.Ppu, v api.Byte) {
	switch i := (p.Dot - 257) / 8; (p.Dot - 257) % 8 {
	case 4:
		p.Lo = v
	case 6:
		p.Hi = v
	case 7:
		if i < p.Many {
			p.Units[i], _ = sprite.Unit(p.Oam[:], p.Found[i], p.Lo, p.Hi)
		}
	}
}

// dotWords is a unit that may be behind a dot, and what comes of it.
func dotWords(r api.Raster, p api.Ppu, screens int, v api.Byte) (api.Ppu, api.Seen) {
	last := p.Line == r.Lines-1
	ready, on := readyWords(r, p), onWords(p)
	dot := p.Dot
	if dot == 1 && p.Line == r.Visible+1 {
		p.Blank = true
	}
	if dot == 1 && last {
		p.Blank, p.Hit, p.Over, p.HitS, p.OverS = false, false, false, false, false
	}
	var seen api.Seen
	if p.Line < r.Visible && dot >= 1 && dot <= 256 {
		seen = showWords(&p)
	}
	if ready && on && tileDotWords(dot) {
		tilesWords(&p, screens, v)
	}
	if ready && on && dot == 256 {
		p.Scroll, _ = scroll.Down(p.Scroll)
	}
	if ready && on && dot == 257 {
		p.Scroll, _ = scroll.Across(p.Scroll)
	}
	if last && on && dot >= 280 && dot <= 304 {
		p.Scroll, _ = scroll.Top(p.Scroll)
	}
	if ready && dot == 257 {
		findWords(r, &p)
	}
	if ready && on && spriteDotWords(dot) {
		fillWords(&p, v)
	}
	p.Dot++
	if p.Dot == 341 || p.Dot == 340 && last && p.Odd && on {
		p.Dot = 0
		p.Line++
	}
	if p.Line == r.Lines {
		p.Line, p.Odd, seen.Frame = 0, !p.Odd, true
	}
	return p, seen
}

// stepWords is the scroll behind what is read, or written, by register 7.
func stepWords(p *api.Ppu) {
	p.Scroll.V = (p.Scroll.V + [...]uint16{1, 32}[bitWords(p.Ctrl, 2)]) % 32768
}

// readWords is a unit that may be, one of whose registers was read, and what is told.
func readWords(p api.Ppu, reg, screens int, v api.Byte) (api.Ppu, api.Byte) {
	at, old := int(p.Scroll.V%16384), p.Io
	switch reg {
	case 2:
		p.Io.V %= 32
		for i, is := range []bool{p.Over, p.Hit, p.Blank} {
			if is {
				p.Io.V += 32 << i
			}
		}
		p.Io.S = old.S || p.HitS || p.OverS
		p.Blank, p.Scroll.W = false, false
	case 4:
		p.Io = p.Oam[p.OamAt]
	case 7:
		p.Io = p.Buf
		switch kindWords(at) {
		case api.PatternW:
			p.Buf = v
		case api.ScreenW:
			p.Buf = *ownWords(&p, at, screens)
		case api.PaletteW:
			c := *ownWords(&p, at, screens)
			p.Io = api.Byte{V: old.V/64*64 + c.V%64, S: old.S || c.S}
			p.Buf = *ownWords(&p, at-4096, screens)
		}
		stepWords(&p)
	}
	return p, p.Io
}

// writeWords is a unit that may be, one of whose registers was written, and what goes out.
func writeWords(p api.Ppu, reg, screens int, b api.Byte) (api.Ppu, api.Out) {
	var out api.Out
	p.Io = b
	switch reg {
	case 0:
		p.Ctrl = b.V
		p.Scroll, _ = scroll.Control(p.Scroll, b.V)
	case 1:
		p.Mask = b.V
	case 3:
		p.OamAt = b.V
	case 4:
		p.Oam[p.OamAt] = b
		p.OamAt++
	case 5:
		p.Scroll, _ = scroll.Write(p.Scroll, b.V)
	case 6:
		p.Scroll, _ = scroll.Addr(p.Scroll, b.V)
	case 7:
		at := int(p.Scroll.V % 16384)
		if kindWords(at) == api.PatternW {
			out = api.Out{Is: true, Addr: uint16(at), V: b}
		} else {
			*ownWords(&p, at, screens) = b
		}
		stepWords(&p)
	}
	return p, out
}

// alikeByteWords tells whether two bytes are alike.
func alikeByteWords(a, b api.Byte) bool { return a.S && b.S || a == b }

// bytesWords is all bytes of a unit.
func bytesWords(p api.Ppu) []api.Byte {
	l := []api.Byte{p.Buf, p.Io, p.Nt, p.Lo, p.Hi}
	l = append(l, p.Oam[:]...)
	l = append(l, p.Vram[:]...)
	return append(l, p.Pal[:]...)
}

// alikeTileWords tells whether two tiles are alike: dot by dot.
func alikeTileWords(a, b api.Tile) bool {
	if a.S != b.S {
		return false
	}
	differ := (a.Lo ^ b.Lo) | (a.Hi ^ b.Hi) | (a.One ^ b.One) | (a.Two ^ b.Two)
	return differ&^a.S == 0
}

// alikeFoundWords tells whether what was found is alike in two that are both vague, or both not.
func alikeFoundWords(a, b api.Ppu) bool {
	if a.Vague {
		return true
	}
	for i := range 8 {
		u, v := a.Units[i], b.Units[i]
		if u.S != v.S || !u.S && u != v {
			return false
		}
	}
	return a.Many == b.Many && a.Found == b.Found
}

// alikeWords tells whether two are alike.
func alikeWords(a, b api.Ppu) bool {
	l, m := bytesWords(a), bytesWords(b)
	for i := range l {
		if !alikeByteWords(l[i], m[i]) {
			return false
		}
	}
	switch {
	case a.HitS != b.HitS, a.OverS != b.OverS, a.TintS != b.TintS, a.Vague != b.Vague:
		return false
	case !a.HitS && a.Hit != b.Hit, !a.OverS && a.Over != b.Over, !a.TintS && a.Tint != b.Tint:
		return false
	case a.Ctrl != b.Ctrl, a.Mask != b.Mask, a.Blank != b.Blank, a.OamAt != b.OamAt:
		return false
	case a.Scroll != b.Scroll, a.Line != b.Line, a.Dot != b.Dot, a.Odd != b.Odd:
		return false
	}
	return alikeTileWords(a.Tile, b.Tile) && alikeFoundWords(a, b)
}
