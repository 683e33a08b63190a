package fresh_test

import (
	"slices"
	"testing"

	"rialto/api"
	"rialto/fresh"
)

// spoil empties a list and its spare room.
func spoil[T any](l []T) { clear(l[:cap(l)]) }

func TestAnswer(t *testing.T) {
	a := api.Answer{Code: 4, Num: 7, Amounts: []api.Amount{{Asset: 1, N: 2}}, Fills: []api.Fill{{Buyer: 1, Seller: 2, Price: 3, N: 4}}}
	b := fresh.Answer(a)
	if b.Code != 4 || b.Num != 7 || !slices.Equal(a.Amounts, b.Amounts) || !slices.Equal(a.Fills, b.Fills) {
		t.Errorf("%v of %v", b, a)
	}
	spoil(b.Amounts)
	spoil(b.Fills)
	if a.Amounts[0].N != 2 || a.Fills[0].N != 4 {
		t.Errorf("R5: %v", a)
	}
}

func TestCell(t *testing.T) {
	c := api.Cell{
		Key: api.Key{Kind: 1, N: 2}, Version: 3, Account: api.Account{Free: []api.Amount{{Asset: 1, N: 2}}, Count: 4},
		Lane: api.Lane{Call: true, Next: 9, Bids: []api.Order{{Id: 1}}, Asks: []api.Order{{Id: 2}}, Owed: []api.Owed{{N: 3}}},
	}
	l := []api.Cell{c, {Version: 8}}
	m := fresh.List(l, fresh.Cell)
	if len(m) != 2 || m[1].Version != 8 {
		t.Fatalf("%v of %v", m, l)
	}
	d := m[0]
	if d.Key != c.Key || d.Version != 3 || d.Account.Count != 4 || !d.Lane.Call || d.Lane.Next != 9 {
		t.Errorf("%v of %v", d, c)
	}
	if !slices.Equal(c.Account.Free, d.Account.Free) || !slices.Equal(c.Lane.Bids, d.Lane.Bids) || !slices.Equal(c.Lane.Asks, d.Lane.Asks) || !slices.Equal(c.Lane.Owed, d.Lane.Owed) {
		t.Errorf("%v of %v", d, c)
	}
	spoil(d.Account.Free)
	spoil(d.Lane.Bids)
	spoil(d.Lane.Asks)
	spoil(d.Lane.Owed)
	spoil(m)
	if c.Account.Free[0].N != 2 || c.Lane.Bids[0].Id != 1 || c.Lane.Asks[0].Id != 2 || c.Lane.Owed[0].N != 3 || l[1].Version != 8 {
		t.Errorf("R5: %v, %v", c, l)
	}
}
