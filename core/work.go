package core

import (
	"seepage/alu"
	"seepage/api"
	"seepage/opcode"
)

// work is a processor at work in a cycle: it, its instruction (none in the first cycle), what was read, and what T is behind the cycle: 0, if it is its instruction's last one.
type work struct {
	api.Cpu
	is   api.Op
	v    api.Byte
	next int
}

// step is a cycle: what is asked for, and what is done then. To ask changes nothing, so that takes a copy.
type step struct {
	ask func(work) api.Bus
	do  func(*work)
}

// turn is the step whose turn it is.
func (w *work) turn() step {
	w.next = w.T + 1
	if w.T == 0 {
		return step{work.atPC, (*work).begin}
	}
	w.is = opcode.Decode(w.Op)
	all := steps(w.is)
	if w.T == len(all) {
		w.next = 0
	}
	return all[w.T-1]
}

// begin is done in the first cycle.
func (w *work) begin() {
	w.Addr, w.AddrS, w.Data, w.Cross = 0, false, api.Byte{}, false
	if w.Intr != api.NoI {
		w.Op = 0
		return
	}
	w.Op = w.v.V
	w.PC++
	if w.v.S {
		w.Ctl = true
	}
}

// end is a cycle's end, ahead of the lines. Behind BRK, and behind what goes its way, one instruction comes in any case.
func (w *work) end() {
	w.T = w.next
	switch {
	case w.T != 0:
	case w.is.Mode == api.BrkM:
		w.Intr = api.NoI
	default:
		w.Intr = w.Pend
		if w.Intr == api.NmiI {
			w.Got = false
		}
	}
}

// hear is what is told of the lines. An irq is asked for by IF, whether there is one or not: so that tells, where it is secret.
func (w *work) hear(l api.Lines) {
	if l.Nmi && !w.Nmi {
		w.Got = true
	}
	w.Nmi = l.Nmi
	shut := alu.Get(w.F, api.IF)
	if shut.S {
		w.Ctl = true
	}
	switch {
	case w.Got:
		w.Pend = api.NmiI
	case l.Irq && shut.V == 0:
		w.Pend = api.IrqI
	default:
		w.Pend = api.NoI
	}
	if l.Reset {
		w.T, w.Intr, w.Jam = 0, api.ResetI, false
	}
}
