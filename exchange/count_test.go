package exchange

import (
	"testing"

	"rialto/api"
)

// What no call tells: how many rounds there were, and that groups are made once.

func TestRounds(t *testing.T) {
	w, _ := New(2, 1)
	for _, a := range []api.Act{{Kind: api.ActTick}, {Kind: api.ActRound}, {Kind: api.ActDeliver}, {Kind: 8}, {Kind: api.ActRound}, {}} {
		w.Do(a)
	}
	if n := w.rounds.Load(); n != 2 {
		t.Errorf("Ways: %d rounds", n)
	}
}

func TestMadeOnce(t *testing.T) {
	w, _ := New(2, 1)
	w.machine(1).state.Map = []api.Place{{Group: 1}}
	if len(w.machine(1).state.Map) != 1 || len(w.machine(0).state.Map) != 0 || w.machine(0).state.Groups != 2 {
		t.Error("Ways: each group has a state of its own, made once")
	}
}
