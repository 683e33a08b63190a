package model_test

import (
	"cmp"
	"fmt"
	"reflect"
	"slices"
	"testing"

	"rialto/api"
	"rialto/auction"
	"rialto/book"
	"rialto/clear"
	"rialto/ledger"
	"rialto/session"
)

const (
	most   = 1 << 53
	half   = 1 << 52
	eighth = 1 << 50
	counts = 1000000000
)

func amount(asset, n int) api.Amount { return api.Amount{Asset: asset, N: n} }

func amounts(l ...api.Amount) []api.Amount { return l }

func owed(account, asset, n int) api.Owed { return api.Owed{Account: account, Asset: asset, N: n} }

// The calls as the words say them. What chapters 12 to 15 and 17 say is asked there.

func plainNew() api.Model {
	lane := api.Lane{Next: 1}
	return api.Model{Accounts: make([]api.Account, 8), Lanes: []api.Lane{lane, lane, lane}}
}

func plainMayBe(m api.Model) bool {
	ok := len(m.Accounts) == 8 && len(m.Lanes) == 3
	for _, a := range m.Accounts {
		ok = ok && ledger.Check(a) == api.OK
	}
	for _, l := range m.Lanes {
		ok = ok && book.Check(l) == api.OK
	}
	return ok
}

// plainRejects is what chapter 18 says of a request at a key, said for each key of the request.
func plainRejects(m api.Model, r api.Request) bool {
	e := api.OK
	switch r.Kind {
	case api.ReqDeposit:
		_, e = ledger.Credit(m.Accounts[r.Account-1], r.Asset, r.N)
	case api.ReqWithdraw:
		_, e = ledger.Debit(m.Accounts[r.Account-1], r.Asset, r.N)
	case api.ReqOrder:
		asset, n := 0, r.Price*r.N
		if r.Side == api.Sell {
			asset, n = r.Lane, r.N
		}
		_, e = ledger.Debit(m.Accounts[r.Account-1], asset, n)
		_, _, _, f := book.Place(m.Lanes[r.Lane-1], r.Account, r.Side, r.Price, r.N, r.Now)
		e = cmp.Or(e, f)
	case api.ReqCancel:
		_, _, e = book.Cancel(m.Lanes[r.Lane-1], r.Account, r.N)
	case api.ReqCall:
		_, e = auction.Call(m.Lanes[r.Lane-1])
	case api.ReqUncross:
		_, _, e = auction.Uncross(m.Lanes[r.Lane-1])
	case api.ReqNet:
		a := m.Accounts[r.Account-1]
		bad := a.Count > 999999900
		for _, x := range a.Free {
			bad = bad || x.N > 4503599627370496
		}
		for _, l := range m.Lanes {
			for _, o := range l.Owed {
				bad = bad || o.Account == r.Account && o.N > 1125899906842624
			}
		}
		return bad
	}
	return e != api.OK
}

func plainDo(m api.Model, r api.Request) (api.Model, api.Answer) {
	m = clone(m)
	if !plainMayBe(m) || !session.Fits(r) {
		return m, api.Answer{Code: 1}
	}
	if plainRejects(m, r) {
		return m, api.Answer{Code: 6}
	}
	var a api.Answer
	var own *api.Account
	var lane *api.Lane
	if r.Account > 0 {
		own = &m.Accounts[r.Account-1]
	}
	if r.Lane > 0 {
		lane = &m.Lanes[r.Lane-1]
	}
	switch r.Kind {
	case api.ReqDeposit:
		*own, _ = ledger.Credit(*own, r.Asset, r.N)
	case api.ReqWithdraw:
		*own, _ = ledger.Debit(*own, r.Asset, r.N)
	case api.ReqOrder:
		if r.Side == api.Buy {
			*own, _ = ledger.Debit(*own, 0, r.Price*r.N)
		} else {
			*own, _ = ledger.Debit(*own, r.Lane, r.N)
		}
		*lane, a.Fills, a.Num, _ = book.Place(*lane, r.Account, r.Side, r.Price, r.N, r.Now)
	case api.ReqCancel:
		*lane, a.Num, _ = book.Cancel(*lane, r.Account, r.N)
	case api.ReqCall:
		lane.Call = true
	case api.ReqUncross:
		*lane, a.Fills, _ = auction.Uncross(*lane)
	case api.ReqNet:
		var sum [4]int
		for i := range m.Lanes {
			l, taken, _ := clear.Take(m.Lanes[i], r.Account)
			m.Lanes[i] = l
			for _, x := range taken {
				sum[x.Asset*(i+1)] += x.N
			}
		}
		for asset, n := range sum {
			if n > 0 {
				*own, _ = ledger.Credit(*own, asset, n)
				a.Amounts = append(a.Amounts, amount(asset, n))
			}
		}
	case api.ReqRead:
		a.Amounts = own.Free
	}
	return m, a
}

func plainTotal(m api.Model) []api.Amount {
	if !plainMayBe(m) {
		return nil
	}
	var l []api.Amount
	for asset := range 4 {
		n := 0
		for _, a := range m.Accounts {
			n += ledger.Balance(a, asset)
		}
		for i, x := range m.Lanes {
			money, goods, _ := book.Holds(x)
			if asset == 0 {
				n += money
			} else if asset == i+1 {
				n += goods
			}
		}
		if n > 0 {
			l = append(l, amount(asset, n))
		}
	}
	return l
}

func clone(m api.Model) api.Model {
	m.Accounts, m.Lanes = slices.Clone(m.Accounts), slices.Clone(m.Lanes)
	for i, a := range m.Accounts {
		m.Accounts[i].Free = slices.Clone(a.Free)
	}
	for i, l := range m.Lanes {
		m.Lanes[i].Bids, m.Lanes[i].Asks, m.Lanes[i].Owed = slices.Clone(l.Bids), slices.Clone(l.Asks), slices.Clone(l.Owed)
	}
	return m
}

// same takes a list that is nil for one that is empty, as the words do.
func same(a, b any) bool { return alike(reflect.ValueOf(a), reflect.ValueOf(b)) }

func alike(a, b reflect.Value) bool {
	if a.Type() != b.Type() {
		return false
	}
	ok := true
	switch a.Kind() {
	case reflect.Slice:
		ok = a.Len() == b.Len()
		for i := 0; ok && i < a.Len(); i++ {
			ok = alike(a.Index(i), b.Index(i))
		}
	case reflect.Struct:
		for i := 0; ok && i < a.NumField(); i++ {
			ok = alike(a.Field(i), b.Field(i))
		}
	default:
		ok = a.Equal(b)
	}
	return ok
}

// brief keeps a failure's text short.
func brief(v any) string {
	s := fmt.Sprintf("%+v", v)
	if len(s) > 900 {
		return s[:900] + " .."
	}
	return s
}

// span is the memory of a list, its spare room too.
type span struct{ from, to uintptr }

// spans are those of all lists of a value.
func spans(v reflect.Value) []span {
	var l []span
	switch v.Kind() {
	case reflect.Slice:
		if size := uintptr(v.Cap()) * v.Type().Elem().Size(); size > 0 {
			l = append(l, span{v.Pointer(), v.Pointer() + size})
		}
		for i := range v.Len() {
			l = append(l, spans(v.Index(i))...)
		}
	case reflect.Struct:
		for i := range v.NumField() {
			l = append(l, spans(v.Field(i))...)
		}
	}
	return l
}

// holdApart: no two lists of some values share memory.
func holdApart(t *testing.T, values ...any) {
	t.Helper()
	var l []span
	for _, v := range values {
		l = append(l, spans(reflect.ValueOf(v))...)
	}
	slices.SortFunc(l, func(a, b span) int { return cmp.Compare(a.from, b.from) })
	for i := 1; i < len(l); i++ {
		if l[i].from < l[i-1].to {
			t.Fatalf("R5: two lists share memory: %s", brief(values))
		}
	}
}
