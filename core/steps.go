package core

import (
	"seepage/alu"
	"seepage/api"
	"seepage/label"
)

// steps is an instruction's cycles behind the first one, by its mode.
func steps(o api.Op) []step {
	switch o.Mode {
	case api.ImpM:
		return []step{{work.atPC, (*work).doAlone}}
	case api.AccM:
		return []step{{work.atPC, (*work).changeA}}
	case api.ImmM:
		return []step{{work.atPC, (*work).doOn}}
	case api.RelM:
		return []step{
			{work.atPC, (*work).branch},
			{work.atPC, (*work).aim},
			{work.atPC, (*work).leavePage},
		}
	case api.IndM:
		return []step{
			{work.atPC, (*work).keepOn},
			{work.atPC, (*work).addrOn},
			{work.atAddr, (*work).keepInPage},
			{work.atAddr, (*work).jump},
		}
	case api.JmpM:
		return []step{{work.atPC, (*work).keepOn}, {work.atPC, (*work).jump}}
	case api.JsrM, api.RtsM, api.RtiM, api.BrkM, api.PushM, api.PullM:
		return ofStack(o.Mode)
	case api.JamM:
		return []step{{work.atEnd, (*work).jam}}
	}
	return append(ahead(o.Mode), works(o.Use)...)
}

// ofStack is the cycles of what works on the stack.
func ofStack(mode int) []step {
	switch mode {
	case api.JsrM:
		return []step{
			{work.atPC, (*work).keepOn},
			{work.atStack, (*work).rest},
			{work.pushHigh, (*work).pushed},
			{work.pushLow, (*work).pushed},
			{work.atPC, (*work).jump},
		}
	case api.RtsM:
		return []step{
			{work.atPC, (*work).rest},
			{work.atStack, (*work).pulled},
			{work.atStack, (*work).pullData},
			{work.atStack, (*work).jump},
			{work.atPC, (*work).on},
		}
	case api.RtiM:
		return []step{
			{work.atPC, (*work).rest},
			{work.atStack, (*work).pulled},
			{work.atStack, (*work).pullFlags},
			{work.atStack, (*work).pullData},
			{work.atStack, (*work).jump},
		}
	case api.BrkM:
		return []step{
			{work.atPC, (*work).breakOn},
			{work.pushHigh, (*work).pushed},
			{work.pushLow, (*work).pushed},
			{work.pushFlags, (*work).pushed},
			{work.atVector, (*work).keep},
			{work.behindVector, (*work).interrupt},
		}
	case api.PushM:
		return []step{{work.atPC, (*work).rest}, {work.pushOne, (*work).pushed}}
	}
	return []step{
		{work.atPC, (*work).rest},
		{work.atStack, (*work).pulled},
		{work.atStack, (*work).pullOne},
	}
}

// ahead is the cycles in which an address is found, of what works on memory.
func ahead(mode int) []step {
	switch mode {
	case api.ZpxM:
		return []step{{work.atPC, (*work).zeroOn}, {work.atAddr, (*work).addX}}
	case api.ZpyM:
		return []step{{work.atPC, (*work).zeroOn}, {work.atAddr, (*work).addY}}
	case api.AbsM:
		return []step{{work.atPC, (*work).keepOn}, {work.atPC, (*work).addrOn}}
	case api.AbxM:
		return []step{
			{work.atPC, (*work).keepOn},
			{work.atPC, (*work).reachXOn},
			{work.atAddr, (*work).cross},
		}
	case api.AbyM:
		return []step{
			{work.atPC, (*work).keepOn},
			{work.atPC, (*work).reachYOn},
			{work.atAddr, (*work).cross},
		}
	case api.IzxM:
		return []step{
			{work.atPC, (*work).zeroOn},
			{work.atAddr, (*work).addX},
			{work.atAddr, (*work).keepInZero},
			{work.atAddr, (*work).point},
		}
	case api.IzyM:
		return []step{
			{work.atPC, (*work).zeroOn},
			{work.atAddr, (*work).keepInZero},
			{work.atAddr, (*work).pointY},
			{work.atAddr, (*work).cross},
		}
	}
	return []step{{work.atPC, (*work).zeroOn}}
}

// works is the cycles of the work on what is at that address.
func works(use int) []step {
	switch use {
	case api.WriteU:
		return []step{{work.putStored, (*work).stored}}
	case api.BothU:
		return []step{{work.atAddr, (*work).keep}, {work.putData, (*work).rest}, {work.putChanged, (*work).changed}}
	}
	return []step{{work.atAddr, (*work).do}}
}

// What is done of all instructions.

func (w *work) rest() {}

func (w *work) on() { w.PC++ }

func (w *work) keep() { w.Data = w.v }

func (w *work) keepOn() {
	w.keep()
	w.on()
}

func (w *work) jump() { w.PC, w.PCS = label.Word(w.Data, w.v) }

func (w *work) jam() {
	w.Jam = true
	w.next = w.T
}

// What is done of the stack.

func (w *work) pushed() { w.S.V-- }

func (w *work) pulled() { w.S.V++ }

func (w *work) pullData() {
	w.keep()
	w.pulled()
}

func (w *work) pullFlags() {
	w.F = alu.Pull(w.v)
	w.pulled()
}

func (w *work) pullOne() {
	if w.is.Name == "PLP" {
		w.F = alu.Pull(w.v)
		return
	}
	w.load(&w.A, w.v)
}

func (w *work) breakOn() {
	if w.Intr == api.NoI {
		w.on()
	}
}

func (w *work) interrupt() {
	w.jump()
	w.set(api.IF, 1)
}

// What is done of addresses.

func (w *work) zeroOn() {
	w.Addr, w.AddrS = label.Word(w.v, label.Low(0))
	w.on()
}

func (w *work) addrOn() {
	w.Addr, w.AddrS = label.Word(w.Data, w.v)
	w.on()
}

func (w *work) addX() { w.add(w.X) }

func (w *work) addY() { w.add(w.Y) }

// add goes around in the first page.
func (w *work) add(by api.Byte) {
	w.Addr = uint16(uint8(w.Addr) + by.V)
	w.AddrS = w.AddrS || by.S
}

func (w *work) keepInZero() {
	w.keep()
	w.Addr = uint16(uint8(w.Addr) + 1)
}

func (w *work) keepInPage() {
	w.keep()
	w.Addr = w.Addr&0xff00 | uint16(uint8(w.Addr)+1)
}

func (w *work) reachXOn() {
	w.reach(w.X)
	w.on()
}

func (w *work) reachYOn() {
	w.reach(w.Y)
	w.on()
}

// reach makes Addr of Data and an index, and of what was read; that of the next page is told by Cross alone, so far.
func (w *work) reach(by api.Byte) {
	low := label.Of(w.Data.V+by.V, w.Data, by)
	w.Cross = low.V < by.V
	w.Addr, w.AddrS = label.Word(low, w.v)
}

func (w *work) point() {
	was := w.AddrS
	w.Addr, w.AddrS = label.Word(w.Data, w.v)
	w.AddrS = w.AddrS || was
}

func (w *work) pointY() {
	was := w.AddrS
	w.reach(w.Y)
	w.AddrS = w.AddrS || was
}

// cross goes to the next page, if that is where the address is; what only reads has what it wants, if it is not.
func (w *work) cross() {
	switch {
	case w.Cross:
		w.Addr += 256
	case w.is.Use == api.ReadU:
		w.do()
		w.next = 0
	}
}

// What is done of a branch.

func (w *work) branch() {
	w.keepOn()
	flag := alu.Get(w.F, w.asked())
	if flag.S {
		w.Ctl = true
	}
	if flag.V != w.wanted() {
		w.next = 0
		return
	}
	w.PCS = w.PCS || w.v.S
}

// asked is the flag that a branch asks.
func (w *work) asked() uint8 {
	switch w.is.Name {
	case "BPL", "BMI":
		return api.NF
	case "BVC", "BVS":
		return api.VF
	case "BCC", "BCS":
		return api.CF
	}
	return api.ZF
}

// wanted is what that is, where the branch is taken.
func (w *work) wanted() uint8 {
	switch w.is.Name {
	case "BMI", "BVS", "BCS", "BEQ":
		return 1
	}
	return 0
}

func (w *work) aim() {
	if w.Data.S {
		w.Ctl, w.PCS = true, true
	}
	target := w.PC + uint16(int8(w.Data.V))
	if target>>8 == w.PC>>8 {
		w.PC = target
		w.next = 0
		return
	}
	w.Addr, w.AddrS = target, w.PCS
	w.PC = w.PC&0xff00 | target&0xff
}

func (w *work) leavePage() {
	w.PC = w.Addr
	w.PCS = w.PCS || w.AddrS
}
