package session_test

import (
	"fmt"
	"math"
	"reflect"
	"slices"

	"rialto/api"
)

// edges are numbers beside which something turns.
var edges = []int{math.MinInt, -1, 0, 1, 2, 3, 4, 6, 7, 8, 9, 10, 99999, 100000, 100001, 999999, 1000000, 1000001, math.MaxInt}

func account(n int) api.Key { return api.Key{Kind: api.KeyAccount, N: n} }

func lane(n int) api.Key { return api.Key{Kind: api.KeyLane, N: n} }

func name(client, seq int) api.Txn { return api.Txn{Client: client, Seq: seq} }

// runs and done are sessions, written short.
func runs(client, seq int) api.Session { return api.Session{Client: client, Seq: seq} }

func done(client, seq int, a api.Answer) api.Session {
	return api.Session{Client: client, Seq: seq, Done: true, Answer: a}
}

// The calls as the words say them.

func plainKey(k api.Key) bool {
	return k.Kind == 1 && k.N >= 1 && k.N <= 8 || k.Kind == 2 && k.N >= 1 && k.N <= 3
}

func plainName(t api.Txn) bool {
	return t.Client >= 1 && t.Client <= 6 && t.Seq >= 1 && t.Seq <= 100000
}

// plainKeys takes each field that a kind has out of the request, if it is right: nothing but the Kind may be left then.
func plainKeys(r api.Request) ([]api.Key, bool) {
	right := true
	take := func(field *int, least, most int) int {
		n := *field
		right = right && n >= least && n <= most
		*field = 0
		return n
	}
	var l []api.Key
	rest := r
	switch r.Kind {
	case 1, 2:
		l = []api.Key{account(take(&rest.Account, 1, 8))}
		take(&rest.Asset, 0, 3)
		take(&rest.N, 1, 1000000)
	case 3:
		l = []api.Key{account(take(&rest.Account, 1, 8)), lane(take(&rest.Lane, 1, 3))}
		take(&rest.Side, 1, 2)
		take(&rest.Price, 1, 1000000)
		take(&rest.N, 1, 1000000)
		rest.Now = false
	case 4:
		take(&rest.Account, 1, 8)
		take(&rest.N, 1, 1000000)
		l = []api.Key{lane(take(&rest.Lane, 1, 3))}
	case 5, 6:
		l = []api.Key{lane(take(&rest.Lane, 1, 3))}
	case 7:
		l = []api.Key{account(take(&rest.Account, 1, 8)), lane(1), lane(2), lane(3)}
	case 8:
		l = []api.Key{account(take(&rest.Account, 1, 8))}
	case 9:
		l = []api.Key{rest.Key}
		right = plainKey(rest.Key)
		rest.Key = api.Key{}
		take(&rest.To, 0, 3)
	default:
		return nil, false
	}
	if !right || rest != (api.Request{Kind: r.Kind}) {
		return nil, false
	}
	return l, true
}

func plainCheck(l []api.Session) api.Errno {
	for i, s := range l {
		empty := s.Answer.Code == 0 && s.Answer.Num == 0 && len(s.Answer.Amounts)+len(s.Answer.Fills) == 0
		if !plainName(name(s.Client, s.Seq)) || i > 0 && l[i-1].Client >= s.Client || !s.Done && !empty {
			return api.ErrSessionForm
		}
	}
	return api.OK
}

func plainBegin(l []api.Session, t api.Txn) ([]api.Session, int, api.Answer, api.Errno) {
	if plainCheck(l) != api.OK {
		return nil, 0, api.Answer{}, api.ErrSessionForm
	}
	if !plainName(t) {
		return nil, 0, api.Answer{}, api.ErrArg
	}
	at := slices.IndexFunc(l, func(s api.Session) bool { return s.Client == t.Client })
	if at < 0 && t.Seq == 1 {
		next := append(slices.Clone(l), runs(t.Client, 1))
		slices.SortFunc(next, func(a, b api.Session) int { return a.Client - b.Client })
		return next, 1, api.Answer{}, api.OK
	}
	if at < 0 {
		return nil, 0, api.Answer{}, api.ErrSessionGap
	}
	own := l[at]
	if own.Done && own.Seq+1 == t.Seq {
		next := slices.Clone(l)
		next[at] = runs(t.Client, t.Seq)
		return next, 1, api.Answer{}, api.OK
	}
	if own.Seq == t.Seq && own.Done {
		return l, 3, own.Answer, api.OK
	}
	if own.Seq == t.Seq {
		return l, 2, api.Answer{}, api.OK
	}
	if t.Seq < own.Seq {
		return nil, 0, api.Answer{}, api.ErrSessionOld
	}
	return nil, 0, api.Answer{}, api.ErrSessionGap
}

func plainEnd(l []api.Session, t api.Txn, a api.Answer) ([]api.Session, api.Errno) {
	if plainCheck(l) != api.OK {
		return nil, api.ErrSessionForm
	}
	if !plainName(t) {
		return nil, api.ErrArg
	}
	next := slices.Clone(l)
	for i, s := range l {
		if s.Client == t.Client && s.Seq == t.Seq && !s.Done {
			next[i] = done(t.Client, t.Seq, a)
			return next, api.OK
		}
	}
	return nil, api.ErrSessionGap
}

// same takes a list that is nil for one that is empty, as the words do.
func same(a, b any) bool { return reflect.DeepEqual(a, b) || fmt.Sprint(a) == fmt.Sprint(b) }
