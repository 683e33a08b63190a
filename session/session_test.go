package session_test

import (
	"math/rand"
	"slices"
	"testing"

	"rialto/api"
	"rialto/session"
)

// answers are some, the zero one first.
func answers() []api.Answer {
	return []api.Answer{
		{},
		{Amounts: []api.Amount{}, Fills: []api.Fill{}},
		{Code: api.ErrRejected},
		{Code: -1},
		{Num: 7},
		{Amounts: []api.Amount{{Asset: 1, N: 2}}},
		{Fills: []api.Fill{{Buyer: 1, Seller: 2, Price: 3, N: 4}}},
		{Fills: []api.Fill{{}}},
		{Amounts: []api.Amount{{}}},
		{Code: api.ErrWounded, Num: -3, Amounts: []api.Amount{{Asset: 9, N: -1}, {}}, Fills: []api.Fill{{}, {Buyer: 9}}},
	}
}

// holdAll holds all calls on sessions against the plain ones, and looks whether what was handed in is as it was.
func holdAll(t *testing.T, l []api.Session, txn api.Txn, a api.Answer) {
	t.Helper()
	was := slices.Clone(l)
	if e := session.Check(l); e != plainCheck(l) {
		t.Fatalf("P17.2: Check(%v): %d", l, e)
	}
	next, kind, answer, e := session.Begin(l, txn)
	if pn, pk, pa, pe := plainBegin(l, txn); !same(next, pn) || kind != pk || !same(answer, pa) || e != pe {
		t.Fatalf("P17.3: Begin(%v, %v): %v, %d, %v, %d, want %v, %d, %v, %d", l, txn, next, kind, answer, e, pn, pk, pa, pe)
	}
	next, e = session.End(l, txn, a)
	if pn, pe := plainEnd(l, txn, a); !same(next, pn) || e != pe {
		t.Fatalf("P17.4: End(%v, %v, %v): %v, %d, want %v, %d", l, txn, a, next, e, pn, pe)
	}
	if !same(l, was) {
		t.Fatalf("R5: %v became %v", was, l)
	}
}

func TestExample(t *testing.T) {
	var l []api.Session
	begin := func(seq, want int, a api.Answer, e api.Errno) {
		t.Helper()
		next, kind, answer, f := session.Begin(l, name(1, seq))
		if kind != want || f != e || !same(answer, a) || (len(next) == 0) != (e != api.OK) {
			t.Errorf("P17.3: %d: %v, %d, %v, %d", seq, next, kind, answer, f)
		}
		if f == api.OK {
			l = next
		}
	}
	five := api.Answer{Num: 5}
	begin(1, api.SessionNew, api.Answer{}, api.OK)
	begin(1, api.SessionRuns, api.Answer{}, api.OK)
	begin(2, 0, api.Answer{}, api.ErrSessionGap)
	next, e := session.End(l, name(1, 1), five)
	if e != api.OK || !same(next, []api.Session{done(1, 1, five)}) {
		t.Fatalf("P17.4: %v, %d", next, e)
	}
	l = next
	begin(1, api.SessionAgain, five, api.OK)
	begin(2, api.SessionNew, api.Answer{}, api.OK)
	begin(1, 0, api.Answer{}, api.ErrSessionOld)
	begin(3, 0, api.Answer{}, api.ErrSessionGap)
	if !same(l, []api.Session{runs(1, 2)}) {
		t.Errorf("P17.3: %v", l)
	}
}

func TestCheck(t *testing.T) {
	for i, c := range []struct {
		l []api.Session
		e api.Errno
	}{
		{nil, api.OK},
		{[]api.Session{}, api.OK},
		{[]api.Session{runs(1, 1)}, api.OK},
		{[]api.Session{runs(6, 100000)}, api.OK},
		{[]api.Session{runs(1, 9), runs(2, 1), runs(3, 5), runs(4, 5), runs(5, 100000), runs(6, 2)}, api.OK},
		{[]api.Session{runs(1, 1), runs(1, 2)}, api.ErrSessionForm},
		{[]api.Session{runs(2, 1), runs(1, 2)}, api.ErrSessionForm},
		{[]api.Session{runs(1, 1), runs(3, 1), runs(2, 1)}, api.ErrSessionForm},
		{[]api.Session{runs(0, 1)}, api.ErrSessionForm},
		{[]api.Session{runs(7, 1)}, api.ErrSessionForm},
		{[]api.Session{runs(1, 0)}, api.ErrSessionForm},
		{[]api.Session{runs(1, 100001)}, api.ErrSessionForm},
		{[]api.Session{runs(1, 1), runs(2, 1), {}}, api.ErrSessionForm},
		{slices.Repeat([]api.Session{runs(3, 3)}, 100000), api.ErrSessionForm},
	} {
		if e := session.Check(c.l); e != c.e {
			t.Errorf("P17.2: %d: %d, want %d", i, e, c.e)
		}
	}
	for i, a := range answers() {
		want := api.OK
		if i > 1 {
			want = api.ErrSessionForm
		}
		s := runs(2, 3)
		s.Answer = a
		if e := session.Check([]api.Session{runs(1, 1), s}); e != want {
			t.Errorf("P17.2: not done, with %v: %d", a, e)
		}
		if e := session.Check([]api.Session{runs(1, 1), done(2, 3, a)}); e != api.OK {
			t.Errorf("P17.2: done, with %v: %d", a, e)
		}
	}
}

// TestEdges brings sessions and names to every edge, first and last of a list.
func TestEdges(t *testing.T) {
	for _, client := range edges {
		for _, seq := range edges {
			for i, a := range answers() {
				s := api.Session{Client: client, Seq: seq, Done: i%2 == 0, Answer: a}
				for _, l := range [][]api.Session{{s}, {runs(1, 1), s}, {s, runs(6, 2)}, {done(1, 1, a), runs(3, 100000)}} {
					for _, txn := range []api.Txn{name(client, seq), name(client, 1), name(1, seq), name(3, seq), name(client, seq+1), name(client, seq-1)} {
						holdAll(t, l, txn, a)
					}
				}
			}
		}
	}
}

// TestSmall goes by all lists of two clients, or fewer, in all of their states, and by all names beside them.
func TestSmall(t *testing.T) {
	var states []api.Session
	for client := 0; client <= 3; client++ {
		for seq := range 4 {
			states = append(states, runs(client, seq), done(client, seq, api.Answer{Num: seq}))
		}
	}
	lists := [][]api.Session{nil}
	for _, a := range states {
		lists = append(lists, []api.Session{a})
		for _, b := range states {
			lists = append(lists, []api.Session{a, b})
		}
	}
	for _, l := range lists {
		for client := range 4 {
			for seq := range 6 {
				holdAll(t, l, name(client, seq), api.Answer{Num: 9})
			}
		}
	}
}

// TestOrder: sessions that may not be are told ahead of a name that is none, and that ahead of the client's state.
func TestOrder(t *testing.T) {
	strange, fair := []api.Session{runs(2, 2), runs(1, 1)}, []api.Session{runs(2, 2)}
	for _, txn := range []api.Txn{{}, name(2, 0), name(7, 2), name(2, 100001), name(2, 2), name(2, 1), name(2, 3)} {
		if next, kind, a, e := session.Begin(strange, txn); e != api.ErrSessionForm || len(next) != 0 || kind != 0 || !same(a, api.Answer{}) {
			t.Errorf("P17.3: %v, %d, %v, %d", next, kind, a, e)
		}
		if next, e := session.End(strange, txn, api.Answer{}); e != api.ErrSessionForm || len(next) != 0 {
			t.Errorf("P17.4: %v, %d", next, e)
		}
		if plainName(txn) {
			continue
		}
		if next, kind, a, e := session.Begin(fair, txn); e != api.ErrArg || len(next) != 0 || kind != 0 || !same(a, api.Answer{}) {
			t.Errorf("P17.3: %v, %d, %v, %d", next, kind, a, e)
		}
		if next, e := session.End(fair, txn, api.Answer{}); e != api.ErrArg || len(next) != 0 {
			t.Errorf("P17.4: %v, %d", next, e)
		}
	}
	// the last number of all has none behind it
	last := []api.Session{done(2, 100000, api.Answer{})}
	if _, _, _, e := session.Begin(last, name(2, 100001)); e != api.ErrArg {
		t.Errorf("P17.3: %d", e)
	}
	if _, kind, _, e := session.Begin(last, name(2, 100000)); e != api.OK || kind != api.SessionAgain {
		t.Errorf("P17.3: %d, %d", kind, e)
	}
}

// TestPlaces: a client's first session comes in where clients rise, and the others stay.
func TestPlaces(t *testing.T) {
	var l []api.Session
	for _, client := range []int{4, 1, 6, 3, 2, 5} {
		next, kind, _, e := session.Begin(l, name(client, 1))
		if kind != api.SessionNew || e != api.OK || session.Check(next) != api.OK || len(next) != len(l)+1 {
			t.Fatalf("P17.3: %v, %d, %d", next, kind, e)
		}
		next, e = session.End(next, name(client, 1), api.Answer{Num: client})
		if e != api.OK {
			t.Fatalf("P17.4: %d", e)
		}
		l = next
	}
	for i, s := range l {
		if !same(s, done(i+1, 1, api.Answer{Num: i + 1})) {
			t.Errorf("P17.3, P17.4: %v", l)
		}
	}
}

// TestRuns begins and ends at random: each Seq of a client is new once, in order, and told again with its own answer.
func TestRuns(t *testing.T) {
	times := map[int]int{}
	for seed := range int64(200) {
		r := rand.New(rand.NewSource(seed))
		var l []api.Session
		var begun, ended [7]int
		given := map[api.Txn]api.Answer{}
		for range 300 {
			client := 1 + r.Intn(6)
			txn := name(client, max(1, begun[client]-1+r.Intn(4)))
			a := answers()[r.Intn(len(answers()))]
			holdAll(t, l, txn, a)
			if next, e := session.End(l, txn, a); e == api.OK && r.Intn(3) > 0 {
				if txn.Seq != begun[client] || ended[client] != begun[client]-1 {
					t.Fatalf("P17.5: %v ended in %v", txn, l)
				}
				ended[client]++
				given[txn] = a
				l = next
			}
			next, kind, answer, e := session.Begin(l, txn)
			times[kind]++
			if e != api.OK {
				continue
			}
			if kind == api.SessionNew {
				if txn.Seq != begun[client]+1 || ended[client] != begun[client] {
					t.Fatalf("P17.5: %v is new in %v", txn, l)
				}
				begun[client]++
			} else if !same(next, l) || kind == api.SessionAgain && !same(answer, given[txn]) {
				t.Fatalf("P17.3: %v: %v, %v", txn, next, answer)
			}
			l = next
		}
	}
	for kind := range 4 {
		if times[kind] < 3000 {
			t.Errorf("too few of them tell something: %v", times)
		}
	}
}

// spoil fills a list and its spare room.
func spoil[T any](l []T, with T) {
	for i := range l[:cap(l)] {
		l[:cap(l)][i] = with
	}
}

func spoilAnswer(a api.Answer) {
	spoil(a.Amounts, api.Amount{Asset: -7, N: -7})
	spoil(a.Fills, api.Fill{Buyer: -7})
}

func spoilAll(l []api.Session) {
	for _, s := range l {
		spoilAnswer(s.Answer)
	}
	spoil(l, runs(-7, -7))
}

func some() api.Answer {
	return api.Answer{Num: 3, Amounts: append(make([]api.Amount, 0, 5), api.Amount{Asset: 1, N: 2}), Fills: append(make([]api.Fill, 0, 5), api.Fill{Buyer: 1, Seller: 2, Price: 3, N: 4})}
}

func sessions() []api.Session {
	return append(make([]api.Session, 0, 9), done(1, 1, some()), runs(2, 2), done(4, 3, some()))
}

// whole is what lists hold, their spare room too.
func whole(l []api.Session) []api.Session {
	all := slices.Clone(l[:cap(l)])
	for i, s := range all {
		s.Answer.Amounts = slices.Clone(s.Answer.Amounts[:cap(s.Answer.Amounts)])
		s.Answer.Fills = slices.Clone(s.Answer.Fills[:cap(s.Answer.Fills)])
		all[i] = s
	}
	return all
}

// TestMemory: what is answered shares nothing with what was handed in, and its lists share nothing.
func TestMemory(t *testing.T) {
	for _, txn := range []api.Txn{name(1, 1), name(1, 2), name(2, 2), name(3, 1), name(4, 3), name(4, 4), name(6, 1), name(1, 9)} {
		l := sessions()
		was := whole(l)
		next, _, a, _ := session.Begin(l, txn)
		first, _, told, _ := session.Begin(l, txn)
		spoilAnswer(told)
		if !same(first, next) {
			t.Fatalf("R5: %v: two lists of one answer share memory", txn)
		}
		spoilAll(first)
		spoilAll(next)
		spoilAnswer(a)
		if !same(whole(l), was) {
			t.Fatalf("R5: Begin of %v shares %v", txn, l)
		}
		mine := some()
		ended, _ := session.End(l, txn, mine)
		second, _ := session.End(l, txn, mine)
		spoilAll(ended)
		if _, kept := session.End(l, txn, some()); kept == api.OK && !same(second[1].Answer, some()) {
			t.Fatalf("R5: End of %v kept what it was given: %v", txn, second)
		}
		spoilAll(second)
		if !same(whole(l), was) || !same(mine, some()) {
			t.Fatalf("R5: End of %v shares %v, %v", txn, l, mine)
		}
	}
}
