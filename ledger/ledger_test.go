package ledger_test

import (
	"math"
	"math/rand"
	"reflect"
	"slices"
	"testing"

	"rialto/api"
	"rialto/ledger"
)

const (
	most      = 1 << 53
	mostCount = 1000000000
)

// amounts are written as pairs: an asset, and how much.
func amounts(pairs ...int) []api.Amount {
	var l []api.Amount
	for i := 0; i < len(pairs); i += 2 {
		l = append(l, api.Amount{Asset: pairs[i], N: pairs[i+1]})
	}
	return l
}

func account(count int, pairs ...int) api.Account {
	return api.Account{Free: amounts(pairs...), Count: count}
}

func same(a, b api.Account) bool { return a.Count == b.Count && slices.Equal(a.Free, b.Free) }

func isZero(a api.Account) bool { return a.Count == 0 && len(a.Free) == 0 }

// The calls as the words say them.

func plainMayBe(a api.Account) bool {
	for i, x := range a.Free {
		if x.Asset < 0 || x.Asset > 3 || x.N < 1 || x.N > most || i > 0 && a.Free[i-1].Asset >= x.Asset {
			return false
		}
	}
	return a.Count >= 0 && a.Count <= mostCount
}

func plainBalance(a api.Account, asset int) int {
	at := slices.IndexFunc(a.Free, func(x api.Amount) bool { return x.Asset == asset })
	if at < 0 {
		return 0
	}
	return a.Free[at].N
}

func plainEntry(a api.Account, asset int, n int, sign int) (api.Account, api.Errno) {
	if !plainMayBe(a) {
		return api.Account{}, api.ErrLedgerForm
	}
	if asset < 0 || asset > 3 || n < 1 || n > most {
		return api.Account{}, api.ErrArg
	}
	is := plainBalance(a, asset) + sign*n
	if is < 0 {
		return api.Account{}, api.ErrLedgerShort
	}
	if is > most || a.Count == mostCount {
		return api.Account{}, api.ErrLedgerOver
	}
	b := api.Account{Count: a.Count + 1}
	for x := range 4 {
		has := plainBalance(a, x)
		if x == asset {
			has = is
		}
		if has > 0 {
			b.Free = append(b.Free, api.Amount{Asset: x, N: has})
		}
	}
	return b, api.OK
}

func plainTotal(l []api.Account) ([]api.Amount, api.Errno) {
	if len(l) > 1000 || slices.ContainsFunc(l, func(a api.Account) bool { return !plainMayBe(a) }) {
		return nil, api.ErrLedgerForm
	}
	var all []api.Amount
	for asset := range 4 {
		sum := 0
		for _, a := range l {
			sum += plainBalance(a, asset)
		}
		if sum > 0 {
			all = append(all, api.Amount{Asset: asset, N: sum})
		}
	}
	return all, api.OK
}

// hold holds all calls of an account against the plain ones, and looks whether what was handed in is as it was.
func hold(t *testing.T, a api.Account, asset, n int) {
	t.Helper()
	was := api.Account{Free: slices.Clone(a.Free), Count: a.Count}
	want := api.OK
	if !plainMayBe(a) {
		want = api.ErrLedgerForm
	}
	if e := ledger.Check(a); e != want {
		t.Fatalf("P12.1: Check(%v): %d, want %d", a, e, want)
	}
	if has, want := ledger.Balance(a, asset), plainBalance(a, asset); has != want {
		t.Fatalf("P12.1: Balance(%v, %d): %d, want %d", a, asset, has, want)
	}
	b, e := ledger.Credit(a, asset, n)
	if p, f := plainEntry(a, asset, n, 1); e != f || !same(b, p) {
		t.Fatalf("P12.2: Credit(%v, %d, %d): %v, %d, want %v, %d", a, asset, n, b, e, p, f)
	}
	b, e = ledger.Debit(a, asset, n)
	if p, f := plainEntry(a, asset, n, -1); e != f || !same(b, p) {
		t.Fatalf("P12.3: Debit(%v, %d, %d): %v, %d, want %v, %d", a, asset, n, b, e, p, f)
	}
	if !same(a, was) {
		t.Fatalf("R5: %v became %v", was, a)
	}
}

// edges are numbers beside which something turns.
var edges = []int{math.MinInt, -most, -1, 0, 1, 2, 3, 4, 5, most - 1, most, most + 1, math.MaxInt - 1, math.MaxInt}

func TestExamples(t *testing.T) {
	a, e := ledger.Credit(api.Account{}, 0, 5)
	if e != api.OK || !same(a, account(1, 0, 5)) {
		t.Errorf("P12.2: %v, %d", a, e)
	}
	if b, e := ledger.Debit(a, 0, 6); e != api.ErrLedgerShort || !isZero(b) {
		t.Errorf("P12.3: %v, %d", b, e)
	}
	if b, e := ledger.Debit(a, 0, 5); e != api.OK || !same(b, account(2)) {
		t.Errorf("P12.3: %v, %d", b, e)
	}
}

func TestCheck(t *testing.T) {
	full := account(mostCount, 0, most, 1, most, 2, most, 3, most)
	for i, c := range []struct {
		a api.Account
		e api.Errno
	}{
		{account(0), api.OK},
		{api.Account{Free: []api.Amount{}}, api.OK},
		{full, api.OK},
		{account(0, 3, 1), api.OK},
		{account(0, 0, 1, 3, 1), api.OK},
		{account(-1), api.ErrLedgerForm},
		{account(math.MinInt), api.ErrLedgerForm},
		{account(mostCount + 1), api.ErrLedgerForm},
		{account(0, 0, 0), api.ErrLedgerForm},
		{account(0, 0, -1), api.ErrLedgerForm},
		{account(0, 0, most+1), api.ErrLedgerForm},
		{account(0, -1, 1), api.ErrLedgerForm},
		{account(0, 4, 1), api.ErrLedgerForm},
		{account(0, math.MinInt, 1), api.ErrLedgerForm},
		{account(0, math.MaxInt, 1), api.ErrLedgerForm},
		{account(0, 1, 1, 1, 1), api.ErrLedgerForm},
		{account(0, 2, 1, 1, 1), api.ErrLedgerForm},
		{account(0, 0, 1, 1, 1, 2, 1, 3, 1, 4, 1), api.ErrLedgerForm},
		{account(0, 0, 1, 1, 0), api.ErrLedgerForm},
	} {
		if e := ledger.Check(c.a); e != c.e {
			t.Errorf("P12.1: case %d: Check(%v): %d, want %d", i, c.a, e, c.e)
		}
	}
}

// TestBalance asks accounts that may not be, too: the first one of an asset counts.
func TestBalance(t *testing.T) {
	a := account(-5, 3, 7, 9, -2, 3, 8, -1, 4, math.MinInt, math.MaxInt)
	for asset, want := range map[int]int{3: 7, 9: -2, -1: 4, math.MinInt: math.MaxInt, 0: 0, 8: 0, math.MaxInt: 0} {
		if n := ledger.Balance(a, asset); n != want {
			t.Errorf("P12.1: Balance of %d: %d, want %d", asset, n, want)
		}
	}
}

func TestEdges(t *testing.T) {
	var accounts []api.Account
	for _, count := range []int{math.MinInt, -1, 0, 1, mostCount - 1, mostCount, mostCount + 1, math.MaxInt} {
		accounts = append(accounts, account(count), account(count, 0, 5, 2, most))
		for _, n := range edges {
			for asset := -1; asset <= 4; asset++ {
				accounts = append(accounts, account(count, asset, n), account(count, 0, n, asset, 3), account(count, asset, n, 3, n))
			}
		}
	}
	for _, a := range accounts {
		for _, asset := range edges {
			for _, n := range edges {
				hold(t, a, asset, n)
			}
		}
	}
}

// TestOrderOfErrors lets several errors apply at once: the first one that the promise names is told.
func TestOrderOfErrors(t *testing.T) {
	bad, spent, poor := account(-1, 0, most), account(mostCount, 0, most), account(mostCount, 0, 1)
	for i, c := range []struct {
		a        api.Account
		asset, n int
		credit   api.Errno
		debit    api.Errno
	}{
		{bad, 4, 0, api.ErrLedgerForm, api.ErrLedgerForm},
		{bad, 0, most, api.ErrLedgerForm, api.ErrLedgerForm},
		{spent, 4, most, api.ErrArg, api.ErrArg},
		{spent, 0, most + 1, api.ErrArg, api.ErrArg},
		{spent, 0, math.MaxInt, api.ErrArg, api.ErrArg},
		{spent, 1, 1, api.ErrLedgerOver, api.ErrLedgerShort},
		{poor, 0, 2, api.ErrLedgerOver, api.ErrLedgerShort},
		{poor, 0, 1, api.ErrLedgerOver, api.ErrLedgerOver},
	} {
		if a, e := ledger.Credit(c.a, c.asset, c.n); e != c.credit || !isZero(a) {
			t.Errorf("P12.2, R2: case %d: %v, %d, want %d", i, a, e, c.credit)
		}
		if a, e := ledger.Debit(c.a, c.asset, c.n); e != c.debit || !isZero(a) {
			t.Errorf("P12.3, R2: case %d: %v, %d, want %d", i, a, e, c.debit)
		}
	}
}

func TestTotal(t *testing.T) {
	full := account(3, 0, most, 1, most, 2, most, 3, most)
	var thousand []api.Account
	for range 1000 {
		thousand = append(thousand, full)
	}
	all := 1000 * most
	bad := append(slices.Clone(thousand[:999]), account(0, 1, 0))
	for i, c := range []struct {
		l    []api.Account
		want []api.Amount
		e    api.Errno
	}{
		{nil, nil, api.OK},
		{[]api.Account{account(0), account(7)}, nil, api.OK},
		{[]api.Account{account(0, 2, 5), account(0, 0, 1), account(0, 2, 6)}, amounts(0, 1, 2, 11), api.OK},
		{[]api.Account{account(0, 3, most), account(0, 3, 1)}, amounts(3, most+1), api.OK},
		{thousand, amounts(0, all, 1, all, 2, all, 3, all), api.OK},
		{append(slices.Clone(thousand), account(0)), nil, api.ErrLedgerForm},
		{make([]api.Account, 1001), nil, api.ErrLedgerForm},
		{bad, nil, api.ErrLedgerForm},
		{[]api.Account{account(-1, 0, 1)}, nil, api.ErrLedgerForm},
		{[]api.Account{account(0, 7, 1)}, nil, api.ErrLedgerForm},
	} {
		if l, e := ledger.Total(c.l); e != c.e || !slices.Equal(l, c.want) {
			t.Errorf("P12.4: case %d: %v, %d, want %v, %d", i, l, e, c.want, c.e)
		}
	}
}

// someAccount may be, mostly; wild numbers stand beside small ones, so that sums meet their bounds.
func someAccount(r *rand.Rand) api.Account {
	a := api.Account{Count: r.Intn(4)}
	if r.Intn(8) == 0 {
		a.Count = mostCount - 1 + r.Intn(2)
	}
	for asset := range 4 {
		switch r.Intn(4) {
		case 0:
			a.Free = append(a.Free, api.Amount{Asset: asset, N: 1 + r.Intn(9)})
		case 1:
			a.Free = append(a.Free, api.Amount{Asset: asset, N: most - r.Intn(9)})
		}
	}
	if len(a.Free) > 0 && r.Intn(10) == 0 {
		a.Free[r.Intn(len(a.Free))] = api.Amount{Asset: r.Intn(6) - 1, N: edges[r.Intn(len(edges))]}
	}
	return a
}

func someN(r *rand.Rand) int {
	if r.Intn(3) == 0 {
		return edges[r.Intn(len(edges))]
	}
	return 1 + r.Intn(9) + r.Intn(2)*(most-9)
}

func TestRandom(t *testing.T) {
	r := rand.New(rand.NewSource(12))
	for range 60000 {
		hold(t, someAccount(r), r.Intn(6)-1, someN(r))
	}
	for range 3000 {
		l := make([]api.Account, r.Intn(12))
		for i := range l {
			l[i] = someAccount(r)
		}
		all, e := ledger.Total(l)
		if want, f := plainTotal(l); e != f || !slices.Equal(all, want) {
			t.Fatalf("P12.4: Total(%v): %v, %d, want %v, %d", l, all, e, want, f)
		}
	}
}

// TestBackAndOver lets entries follow one another: what goes to and fro gives the balances that were, what goes over changes no total.
func TestBackAndOver(t *testing.T) {
	r := rand.New(rand.NewSource(125))
	back, over := 0, 0
	for range 20000 {
		a, b := someAccount(r), someAccount(r)
		asset, n := r.Intn(4), someN(r)
		if c, e := ledger.Credit(a, asset, n); e == api.OK {
			if d, e := ledger.Debit(c, asset, n); e == api.OK {
				back++
				if !slices.Equal(d.Free, a.Free) || d.Count != a.Count+2 {
					t.Fatalf("P12.5: %v, then %v, then %v", a, c, d)
				}
			} else if c.Count < mostCount {
				t.Fatalf("P12.5: of %v the same is not debited: %d", c, e)
			}
		}
		if c, e := ledger.Debit(a, asset, n); e == api.OK && c.Count < mostCount {
			if d, e := ledger.Credit(c, asset, n); e != api.OK || !slices.Equal(d.Free, a.Free) {
				t.Fatalf("P12.5: %v, then %v, then %v, %d", a, c, d, e)
			}
		}
		from, e := ledger.Debit(a, asset, n)
		to, f := ledger.Credit(b, asset, n)
		if e != api.OK || f != api.OK {
			continue
		}
		over++
		ahead, _ := ledger.Total([]api.Account{a, b})
		behind, e := ledger.Total([]api.Account{from, to})
		if e != api.OK || !slices.Equal(ahead, behind) {
			t.Fatalf("P12.5: of %v and %v %v, of %v and %v %v, %d", a, b, ahead, from, to, behind, e)
		}
	}
	if back < 1000 || over < 1000 {
		t.Errorf("P12.5: only %d went back, %d over", back, over)
	}
}

// TestMemory writes over all that is answered, and its spare room: nobody else has any of it.
func TestMemory(t *testing.T) {
	room := make([]api.Amount, 2, 8)
	copy(room, amounts(0, 5, 2, 6))
	a := api.Account{Free: room}
	for name, call := range map[string]func() []api.Amount{
		"Credit": func() []api.Amount { b, _ := ledger.Credit(a, 1, 1); return b.Free },
		"more":   func() []api.Amount { b, _ := ledger.Credit(a, 3, 1); return b.Free },
		"Debit":  func() []api.Amount { b, _ := ledger.Debit(a, 0, 1); return b.Free },
		"gone":   func() []api.Amount { b, _ := ledger.Debit(a, 2, 6); return b.Free },
		"Total":  func() []api.Amount { l, _ := ledger.Total([]api.Account{a}); return l },
	} {
		first := call()
		want := slices.Clone(first)
		whole := first[:cap(first)]
		for i := range whole {
			whole[i] = api.Amount{Asset: 99, N: -99}
		}
		if !reflect.DeepEqual(room[:cap(room)], append(amounts(0, 5, 2, 6), make([]api.Amount, 6)...)) {
			t.Errorf("R5: %s: what was handed in is %v", name, room[:cap(room)])
		}
		if again := call(); !slices.Equal(again, want) {
			t.Errorf("R5, R6: %s: %v, then %v", name, want, again)
		}
	}
}
