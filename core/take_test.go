package core

import (
	"testing"

	"seepage/api"
)

// P10.3, and P10.2 of those that may be, against the chapter's words.

func TestEachTurnByTheWords(t *testing.T) {
	chance := chance(1)
	everyTurn(func(op uint8, turn int) {
		for i := range 400 {
			labels := i%2 == 0
			c := chance.cpu(op, turn, labels)
			v, l := chance.part(labels), chance.lines()
			bus, want := told(c, v, l)
			if got := Ask(c); got != bus {
				t.Fatalf("Ask(%+v) = %+v, want %+v", c, got, bus)
			}
			if got, e := Take(c, v, l); got != want || e != api.OK {
				t.Fatalf("Take(%+v, %v, %+v) = %+v, %d, want %+v", c, v, l, got, e, want)
			}
			w := byWords{Cpu: c}
			w.lines(l)
			if got, e := Wait(c, l); got != w.Cpu || e != api.OK {
				t.Fatalf("Wait(%+v, %+v) = %+v, %d, want %+v", c, l, got, e, w.Cpu)
			}
		}
	})
}
