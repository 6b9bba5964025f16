// Package label is layer 1: bytes that are low, or secret. See shared/doc/01-label.md.
package label

import (
	"seepage/api"
)

// Low is a value, low.
func Low(v uint8) api.Byte { return api.Byte{V: v} }

// Secret is a value, secret.
func Secret(v uint8) api.Byte { return api.Byte{V: v, S: true} }

// Any tells whether one of some is secret.
func Any(from ...api.Byte) bool {
	for _, b := range from {
		if b.S {
			return true
		}
	}
	return false
}

// Of is a value, made of some.
func Of(v uint8, from ...api.Byte) api.Byte { return api.Byte{V: v, S: Any(from...)} }

// Alike tells whether two are alike.
func Alike(a, b api.Byte) bool {
	if a.S || b.S {
		return a.S && b.S
	}
	return a.V == b.V
}

// And is bit by bit both. A low 0 doesn't make it low: whether it is secret hangs on no value.
func And(a, b api.Byte) api.Byte { return Of(a.V&b.V, a, b) }

// Or is bit by bit one of both.
func Or(a, b api.Byte) api.Byte { return Of(a.V|b.V, a, b) }

// Xor is bit by bit just one of both.
func Xor(a, b api.Byte) api.Byte { return Of(a.V^b.V, a, b) }

// Bit is one of its bits.
func Bit(a api.Byte, i int) api.Byte {
	if i < 0 || i > 7 { // a shift by a number below 0 would panic
		return Of(0, a)
	}
	return Of(a.V>>i&1, a)
}

// Mux is one of two, by a third one. The one that isn't taken counts too, since that it wasn't hangs on a value.
func Mux(sel, a, b api.Byte) api.Byte {
	v := b.V
	if sel.V == 0 {
		v = a.V
	}
	return Of(v, sel, a, b)
}

// Word is two, as one number.
func Word(lo, hi api.Byte) (uint16, bool) {
	return uint16(lo.V) | uint16(hi.V)<<8, Any(lo, hi)
}

// Split is a number's two.
func Split(w uint16, s bool) (api.Byte, api.Byte) {
	return api.Byte{V: uint8(w), S: s}, api.Byte{V: uint8(w >> 8), S: s}
}

// Erase is its value, low.
func Erase(a api.Byte) api.Byte { return Low(a.V) }
