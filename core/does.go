package core

import (
	"seepage/alu"
	"seepage/api"
	"seepage/label"
)

// unstable is the bits of A that count for nothing in ANE and LXA.
const unstable = 238

// alone is what is done without anything.
func alone() map[string]func(*work) {
	return map[string]func(*work){
		"TAX": (*work).tax, "TAY": (*work).tay, "TXA": (*work).txa, "TYA": (*work).tya,
		"TSX": (*work).tsx, "TXS": (*work).txs,
		"INX": (*work).inx, "INY": (*work).iny, "DEX": (*work).dex, "DEY": (*work).dey,
		"CLC": (*work).clc, "CLD": (*work).cld, "CLI": (*work).cli, "CLV": (*work).clv,
		"SEC": (*work).sec, "SED": (*work).sed, "SEI": (*work).sei,
		"NOP": (*work).rest,
	}
}

// reads is what is done with what was read.
func reads() map[string]func(*work, api.Byte) {
	return map[string]func(*work, api.Byte){
		"LDA": (*work).lda, "LDX": (*work).ldx, "LDY": (*work).ldy, "LAX": (*work).lax, "LAS": (*work).las,
		"ORA": (*work).ora, "AND": (*work).and, "EOR": (*work).eor, "ADC": (*work).adc, "SBC": (*work).sbc,
		"CMP": (*work).cmp, "CPX": (*work).cpx, "CPY": (*work).cpy, "BIT": (*work).bit,
		"ANC": (*work).anc, "ALR": (*work).alr, "ARR": (*work).arr, "SBX": (*work).sbx,
		"ANE": (*work).ane, "LXA": (*work).lxa,
		"NOP": (*work).nop,
	}
}

// changes is what comes of what was read.
func changes() map[string]func(*work, api.Byte) api.Byte {
	return map[string]func(*work, api.Byte) api.Byte{
		"ASL": (*work).asl, "LSR": (*work).lsr, "ROL": (*work).rol, "ROR": (*work).ror,
		"INC": (*work).inc, "DEC": (*work).dec,
		"SLO": (*work).slo, "RLA": (*work).rla, "SRE": (*work).sre, "RRA": (*work).rra,
		"DCP": (*work).dcp, "ISC": (*work).isc,
	}
}

// stores is what is written, and where.
func stores() map[string]func(*work) api.Bus {
	return map[string]func(*work) api.Bus{
		"STA": (*work).sta, "STX": (*work).stx, "STY": (*work).sty, "SAX": (*work).sax,
		"SHA": (*work).sha, "SHX": (*work).shx, "SHY": (*work).shy, "TAS": (*work).tas,
	}
}

func (w *work) doAlone() { alone()[w.is.Name](w) }

func (w *work) do() { reads()[w.is.Name](w, w.v) }

func (w *work) doOn() {
	w.do()
	w.on()
}

func (w *work) change(v api.Byte) api.Byte { return changes()[w.is.Name](w, v) }

func (w *work) changeA() { w.A = w.change(w.A) }

// changed is done once what came of it has been written.
func (w *work) changed() { w.change(w.Data) }

func (w *work) store() api.Bus { return stores()[w.is.Name](w) }

// stored is done once it has been written.
func (w *work) stored() { w.store() }

// load puts a byte into a register, with its flags.
func (w *work) load(r *api.Byte, v api.Byte) {
	*r = v
	w.F = alu.NZ(w.F, v)
}

// with takes over the flags that a byte was reckoned with.
func (w *work) with(v api.Byte, f api.Flags) api.Byte {
	w.F = f
	return v
}

// set sets a flag to 1, or to 0, low.
func (w *work) set(flag, v uint8) { w.F = alu.Set(w.F, flag, label.Low(v)) }

// more is a byte and a number, going around.
func more(b api.Byte, by uint8) api.Byte { return label.Of(b.V+by, b) }

// Alone.

func (w *work) tax() { w.load(&w.X, w.A) }
func (w *work) tay() { w.load(&w.Y, w.A) }
func (w *work) txa() { w.load(&w.A, w.X) }
func (w *work) tya() { w.load(&w.A, w.Y) }
func (w *work) tsx() { w.load(&w.X, w.S) }
func (w *work) txs() { w.S = w.X }
func (w *work) inx() { w.load(&w.X, more(w.X, 1)) }
func (w *work) iny() { w.load(&w.Y, more(w.Y, 1)) }
func (w *work) dex() { w.load(&w.X, more(w.X, 255)) }
func (w *work) dey() { w.load(&w.Y, more(w.Y, 255)) }
func (w *work) clc() { w.set(api.CF, 0) }
func (w *work) cld() { w.set(api.DF, 0) }
func (w *work) cli() { w.set(api.IF, 0) }
func (w *work) clv() { w.set(api.VF, 0) }
func (w *work) sec() { w.set(api.CF, 1) }
func (w *work) sed() { w.set(api.DF, 1) }
func (w *work) sei() { w.set(api.IF, 1) }

// With what was read.

func (w *work) nop(api.Byte)   {}
func (w *work) lda(v api.Byte) { w.load(&w.A, v) }
func (w *work) ldx(v api.Byte) { w.load(&w.X, v) }
func (w *work) ldy(v api.Byte) { w.load(&w.Y, v) }
func (w *work) ora(v api.Byte) { w.load(&w.A, label.Or(w.A, v)) }
func (w *work) and(v api.Byte) { w.load(&w.A, label.And(w.A, v)) }
func (w *work) eor(v api.Byte) { w.load(&w.A, label.Xor(w.A, v)) }
func (w *work) adc(v api.Byte) { w.A = w.with(alu.Adc(w.F, w.A, v)) }
func (w *work) sbc(v api.Byte) { w.A = w.with(alu.Sbc(w.F, w.A, v)) }
func (w *work) arr(v api.Byte) { w.A = w.with(alu.Arr(w.F, w.A, v)) }
func (w *work) sbx(v api.Byte) { w.X = w.with(alu.Sbx(w.F, label.And(w.A, w.X), v)) }
func (w *work) cmp(v api.Byte) { w.F = alu.Cmp(w.F, w.A, v) }
func (w *work) cpx(v api.Byte) { w.F = alu.Cmp(w.F, w.X, v) }
func (w *work) cpy(v api.Byte) { w.F = alu.Cmp(w.F, w.Y, v) }
func (w *work) bit(v api.Byte) { w.F = alu.Bit(w.F, w.A, v) }

func (w *work) lax(v api.Byte) {
	w.lda(v)
	w.X = v
}

func (w *work) las(v api.Byte) {
	w.lax(label.And(v, w.S))
	w.S = w.A
}

func (w *work) anc(v api.Byte) {
	w.and(v)
	w.F = alu.Set(w.F, api.CF, label.Bit(w.A, 7))
}

func (w *work) alr(v api.Byte) {
	w.and(v)
	w.A = w.lsr(w.A)
}

func (w *work) ane(v api.Byte) { w.lda(label.And(label.And(w.firm(), w.X), v)) }

func (w *work) lxa(v api.Byte) { w.lax(label.And(w.firm(), v)) }

// firm is what counts of A, where some of its bits do not.
func (w *work) firm() api.Byte { return label.Or(w.A, label.Low(unstable)) }

// What comes of what was read.

func (w *work) asl(b api.Byte) api.Byte { return w.with(alu.Asl(w.F, b)) }
func (w *work) lsr(b api.Byte) api.Byte { return w.with(alu.Lsr(w.F, b)) }
func (w *work) rol(b api.Byte) api.Byte { return w.with(alu.Rol(w.F, b)) }
func (w *work) ror(b api.Byte) api.Byte { return w.with(alu.Ror(w.F, b)) }

func (w *work) inc(b api.Byte) api.Byte {
	w.load(&b, more(b, 1))
	return b
}

func (w *work) dec(b api.Byte) api.Byte {
	w.load(&b, more(b, 255))
	return b
}

func (w *work) slo(b api.Byte) api.Byte {
	b = w.asl(b)
	w.ora(b)
	return b
}

func (w *work) rla(b api.Byte) api.Byte {
	b = w.rol(b)
	w.and(b)
	return b
}

func (w *work) sre(b api.Byte) api.Byte {
	b = w.lsr(b)
	w.eor(b)
	return b
}

func (w *work) rra(b api.Byte) api.Byte {
	b = w.ror(b)
	w.adc(b)
	return b
}

func (w *work) dcp(b api.Byte) api.Byte {
	b = w.dec(b)
	w.cmp(b)
	return b
}

func (w *work) isc(b api.Byte) api.Byte {
	b = w.inc(b)
	w.sbc(b)
	return b
}

// What is written.

func (w *work) sta() api.Bus { return w.put(w.A) }
func (w *work) stx() api.Bus { return w.put(w.X) }
func (w *work) sty() api.Bus { return w.put(w.Y) }
func (w *work) sax() api.Bus { return w.put(label.And(w.A, w.X)) }
func (w *work) sha() api.Bus { return w.putWith(label.And(w.A, w.X)) }
func (w *work) shx() api.Bus { return w.putWith(w.X) }
func (w *work) shy() api.Bus { return w.putWith(w.Y) }

func (w *work) tas() api.Bus {
	w.S = label.And(w.A, w.X)
	return w.putWith(w.S)
}

// putWith writes a byte And one more than the upper half of Addr ahead of Cross. Where a page was crossed, Addr's upper half is that one more already, and what is written takes its place.
func (w *work) putWith(b api.Byte) api.Bus {
	low, high := label.Split(w.Addr, w.AddrS)
	if !w.Cross {
		return w.put(label.And(b, more(high, 1)))
	}
	v := label.And(b, high)
	bus := w.put(v)
	bus.Addr, bus.Secret = label.Word(low, v)
	return bus
}
