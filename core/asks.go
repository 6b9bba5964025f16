package core

import (
	"seepage/alu"
	"seepage/api"
	"seepage/label"
)

func (w work) atPC() api.Bus { return api.Bus{Addr: w.PC, Secret: w.PCS} }

func (w work) atAddr() api.Bus { return api.Bus{Addr: w.Addr, Secret: w.AddrS} }

func (w work) atStack() api.Bus {
	addr, s := label.Word(w.S, label.Low(1))
	return api.Bus{Addr: addr, Secret: s}
}

func (w work) atVector() api.Bus {
	switch w.Intr {
	case api.NmiI:
		return api.Bus{Addr: 65530}
	case api.ResetI:
		return api.Bus{Addr: 65532}
	}
	return api.Bus{Addr: 65534}
}

func (w work) behindVector() api.Bus {
	b := w.atVector()
	b.Addr++
	return b
}

func (w work) atEnd() api.Bus { return api.Bus{Addr: 65535} }

// push writes to the stack; BRK reads there instead, where it is a reset.
func (w work) push(v api.Byte) api.Bus {
	b := w.atStack()
	if w.is.Mode == api.BrkM && w.Intr == api.ResetI {
		return b
	}
	b.Write, b.V = true, v
	return b
}

func (w work) pushHigh() api.Bus {
	_, high := label.Split(w.PC, w.PCS)
	return w.push(high)
}

func (w work) pushLow() api.Bus {
	low, _ := label.Split(w.PC, w.PCS)
	return w.push(low)
}

// pushFlags pushes the flags. That it is no interrupt is told by brk.
func (w work) pushFlags() api.Bus { return w.push(alu.Push(w.F, w.Intr == api.NoI)) }

func (w work) pushOne() api.Bus {
	if w.is.Name == "PHP" {
		return w.push(alu.Push(w.F, true))
	}
	return w.push(w.A)
}

// put writes to Addr.
func (w work) put(v api.Byte) api.Bus {
	return api.Bus{Addr: w.Addr, Write: true, V: v, Secret: w.AddrS}
}

func (w work) putData() api.Bus { return w.put(w.Data) }

func (w work) putStored() api.Bus { return w.store() }

// putChanged writes what comes of Data. That is told on its own, since to tell it changes w.
func (w work) putChanged() api.Bus {
	v := w.change(w.Data)
	return w.put(v)
}
