package session_test

import (
	"math"
	"slices"
	"testing"

	"rialto/api"
	"rialto/session"
)

// hold holds Fits and Keys against the plain ones.
func hold(t *testing.T, r api.Request) {
	t.Helper()
	keys, fits := plainKeys(r)
	if got := session.Fits(r); got != fits {
		t.Fatalf("P17.1: Fits(%+v): %v", r, got)
	}
	if got := session.Keys(r); !slices.Equal(got, keys) {
		t.Fatalf("P17.1: Keys(%+v): %v, want %v", r, got, keys)
	}
}

// fitting are requests that fit, of each kind.
func fitting() []api.Request {
	return []api.Request{
		{Kind: api.ReqDeposit, Account: 1, Asset: 0, N: 1},
		{Kind: api.ReqDeposit, Account: 8, Asset: 3, N: 1000000},
		{Kind: api.ReqWithdraw, Account: 1, Asset: 0, N: 1},
		{Kind: api.ReqWithdraw, Account: 8, Asset: 3, N: 1000000},
		{Kind: api.ReqOrder, Account: 1, Lane: 1, Side: api.Buy, Price: 1, N: 1},
		{Kind: api.ReqOrder, Account: 8, Lane: 3, Side: api.Sell, Price: 1000000, N: 1000000, Now: true},
		{Kind: api.ReqCancel, Account: 1, Lane: 1, N: 1},
		{Kind: api.ReqCancel, Account: 8, Lane: 3, N: 1000000},
		{Kind: api.ReqCall, Lane: 1},
		{Kind: api.ReqCall, Lane: 3},
		{Kind: api.ReqUncross, Lane: 1},
		{Kind: api.ReqUncross, Lane: 3},
		{Kind: api.ReqNet, Account: 1},
		{Kind: api.ReqNet, Account: 8},
		{Kind: api.ReqRead, Account: 1},
		{Kind: api.ReqRead, Account: 8},
		{Kind: api.ReqMove, Key: account(1), To: 0},
		{Kind: api.ReqMove, Key: account(8), To: 3},
		{Kind: api.ReqMove, Key: lane(1), To: 0},
		{Kind: api.ReqMove, Key: lane(3), To: 3},
	}
}

func fields(r *api.Request) []*int {
	return []*int{&r.Kind, &r.Account, &r.Lane, &r.Asset, &r.Side, &r.Price, &r.N, &r.Key.Kind, &r.Key.N, &r.To}
}

func TestKeys(t *testing.T) {
	want := [][]api.Key{
		{account(1)}, {account(8)}, {account(1)}, {account(8)},
		{account(1), lane(1)}, {account(8), lane(3)},
		{lane(1)}, {lane(3)}, {lane(1)}, {lane(3)}, {lane(1)}, {lane(3)},
		{account(1), lane(1), lane(2), lane(3)}, {account(8), lane(1), lane(2), lane(3)},
		{account(1)}, {account(8)},
		{account(1)}, {account(8)}, {lane(1)}, {lane(3)},
	}
	for i, r := range fitting() {
		if got := session.Keys(r); !session.Fits(r) || !slices.Equal(got, want[i]) {
			t.Errorf("P17.1: %+v: %v, want %v", r, got, want[i])
		}
		hold(t, r)
	}
}

// TestFields brings each field, and each two, of requests that fit to every edge; and Now to both.
func TestFields(t *testing.T) {
	for _, fits := range fitting() {
		for i := range fields(&fits) {
			for j := range i + 1 {
				for _, n := range edges {
					for _, m := range edges {
						r := fits
						*fields(&r)[i] = n
						*fields(&r)[j] = m
						hold(t, r)
						r.Now = !r.Now
						hold(t, r)
					}
				}
			}
		}
	}
}

// TestMisfits: one field that is no request's is enough.
func TestMisfits(t *testing.T) {
	for _, fits := range fitting() {
		for i := range fields(&fits) {
			for _, n := range []int{math.MinInt, -1, math.MaxInt} {
				r := fits
				*fields(&r)[i] = n
				if session.Fits(r) || len(session.Keys(r)) != 0 {
					t.Errorf("P17.1: %+v fits", r)
				}
			}
		}
	}
	for _, r := range []api.Request{{}, {Kind: 10}, {Kind: -1}, {Kind: math.MaxInt}, {Kind: math.MinInt}, {Account: 1}, {Kind: 10, Account: 1}} {
		if session.Fits(r) || len(session.Keys(r)) != 0 {
			t.Errorf("P17.1: %+v fits", r)
		}
	}
}

// TestKeysMemory: two answers share nothing.
func TestKeysMemory(t *testing.T) {
	for _, r := range fitting() {
		got := session.Keys(r)
		was := slices.Clone(got)
		for i := range got[:cap(got)] {
			got[:cap(got)][i] = lane(7)
		}
		if again := session.Keys(r); !slices.Equal(again, was) {
			t.Errorf("R5: %v, then %v", was, again)
		}
	}
}
