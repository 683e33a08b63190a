package shard_test

import (
	"cmp"
	"fmt"
	"reflect"
	"slices"
	"strings"
	"testing"

	"rialto/api"
	"rialto/book"
	"rialto/coord"
	"rialto/ledger"
	"rialto/part"
	"rialto/session"
	"rialto/shardmap"
)

func account(n int) api.Key { return api.Key{Kind: api.KeyAccount, N: n} }

func lane(n int) api.Key { return api.Key{Kind: api.KeyLane, N: n} }

func name(client, seq int) api.Txn { return api.Txn{Client: client, Seq: seq} }

func amount(asset, n int) api.Amount { return api.Amount{Asset: asset, N: n} }

func amounts(l ...api.Amount) []api.Amount { return l }

func place(key api.Key, group, version int) api.Place {
	return api.Place{Key: key, Group: group, Version: version}
}

// The calls as the words say them. What chapters 12 to 20 say is asked there.

func in(n, least, most int) bool { return n >= least && n <= most }

func plainKey(k api.Key) bool { return k.Kind == 1 && in(k.N, 1, 8) || k.Kind == 2 && in(k.N, 1, 3) }

// has is the words' own table.
var has = map[int]string{
	1: "Req",
	2: "Key Req",
	3: "Key Yes Code Amounts Num Cells Req",
	4: "Key Yes Amounts Cells",
	5: "Key Num Amounts Fills",
	6: "",
	7: "Code Num Amounts Fills",
}

// plainMayBe blanks each field that a message's kind has, if it is as the words say; what is left must be zero.
func plainMayBe(m api.Message) bool {
	if !in(m.Kind, 1, 7) || !in(m.From, -1, 3) || !in(m.To, -1, 3) || (m.From == -1) != (m.Kind == 1) || (m.To == -1) != (m.Kind == 7) {
		return false
	}
	if !in(m.Txn.Client, 1, 6) || !in(m.Txn.Seq, 1, 100000) {
		return false
	}
	left := m
	for _, field := range strings.Fields(has[m.Kind]) {
		ok := true
		switch field {
		case "Key":
			ok = plainKey(m.Key)
			left.Key = api.Key{}
		case "Req":
			ok = plainRequest(m)
			left.Req = api.Request{}
		case "Yes":
			left.Yes = false
		case "Code":
			ok = in(int(m.Answer.Code), 0, 999)
			left.Answer.Code = 0
		case "Num":
			ok = in(m.Answer.Num, 0, 1000000)
			left.Answer.Num = 0
		case "Amounts":
			ok = ledger.Check(api.Account{Free: m.Answer.Amounts}) == api.OK
			left.Answer.Amounts = nil
		case "Fills":
			ok = len(m.Answer.Fills) <= 1000 && len(slices.DeleteFunc(slices.Clone(m.Answer.Fills), plainFill)) == 0
			left.Answer.Fills = nil
		case "Cells":
			ok = len(m.Cells) == 0 || len(m.Cells) == 1 && plainCell(m.Cells[0], m.Key)
			left.Cells = nil
		}
		if !ok {
			return false
		}
	}
	return same(left, api.Message{Kind: m.Kind, From: m.From, To: m.To, Txn: m.Txn})
}

func plainRequest(m api.Message) bool {
	switch m.Kind {
	case 1:
		return session.Fits(m.Req)
	case 2:
		return session.Fits(m.Req) && slices.Contains(session.Keys(m.Req), m.Key)
	}
	return m.Req == api.Request{} || session.Fits(m.Req) && m.Req.Kind == api.ReqMove
}

func plainFill(f api.Fill) bool {
	return in(f.Buyer, 1, 8) && in(f.Seller, 1, 8) && in(f.Price, 1, 1000000) && in(f.N, 1, 1000000)
}

func plainCell(c api.Cell, key api.Key) bool {
	if c.Key != key || !in(c.Version, 0, 1000000) || ledger.Check(c.Account) != api.OK {
		return false
	}
	if key.Kind == 1 {
		return same(c.Lane, api.Lane{})
	}
	return book.Check(c.Lane) == api.OK && same(c.Account, api.Account{})
}

func plainNew(group, groups int) (api.Shard, api.Errno) {
	if !in(groups, 1, 4) || !in(group, 0, groups-1) {
		return api.Shard{}, api.ErrArg
	}
	s := api.Shard{Group: group, Groups: groups, Part: api.Part{Group: group}, Coord: api.Coord{Group: group}}
	for n := 1; n <= 8; n++ {
		if n%groups == group {
			s.Part.Cells = append(s.Part.Cells, api.Cell{Key: account(n)})
		}
	}
	for n := 1; n <= 3; n++ {
		if n%groups == group {
			s.Part.Cells = append(s.Part.Cells, api.Cell{Key: lane(n), Lane: api.Lane{Next: 1}})
		}
	}
	return s, api.OK
}

// plain is a group on which words are done; bad says that a layer below answered an error.
type plain struct {
	s     api.Shard
	told  []api.Message
	marks []api.Mark
	bad   bool
}

func (w *plain) ok(e api.Errno) bool {
	w.bad = w.bad || e != api.OK
	return e == api.OK
}

func plainApply(s api.Shard, m api.Message) (api.Shard, []api.Message, []api.Mark) {
	if !plainMayBe(m) || m.To != s.Group || m.Kind == api.MsgAnswer {
		return clone(s), nil, nil
	}
	w := plain{s: clone(s)}
	switch m.Kind {
	case api.MsgAsk:
		if m.Txn.Client%s.Groups == s.Group {
			w.ask(m)
		}
	case api.MsgPrepare:
		p, told, marks, e := part.Prepare(s.Part, m)
		w.ok(e)
		w.s.Part, w.told, w.marks = p, told, marks
	case api.MsgFinish:
		w.finish(m)
	default:
		w.hear(m)
	}
	if w.bad {
		return clone(s), nil, nil
	}
	for i := range w.told {
		w.told[i] = plainHint(w.s, w.told[i])
	}
	return w.s, w.told, w.marks
}

func (w *plain) ask(m api.Message) {
	l, state, a, e := session.Begin(w.s.Sessions, m.Txn)
	if !w.ok(e) {
		return
	}
	w.s.Sessions = l
	if state == api.SessionAgain {
		w.told = []api.Message{{Kind: 7, From: w.s.Group, To: -1, Txn: m.Txn, Answer: a}}
	}
	if state != api.SessionNew {
		return
	}
	owner := func(key api.Key) int {
		p, e := shardmap.Owner(w.s.Map, key, w.s.Groups)
		w.ok(e)
		return p.Group
	}
	if m.Req.Kind == api.ReqMove && (m.Req.To >= w.s.Groups || owner(m.Req.Key) == m.Req.To) {
		w.end(m.Txn, api.Answer{Code: 6})
		return
	}
	var peers []api.Peer
	for _, key := range session.Keys(m.Req) {
		peers = append(peers, api.Peer{Key: key, Group: owner(key)})
	}
	if m.Req.Kind == api.ReqMove {
		peers = append(peers, api.Peer{Key: m.Req.Key, Group: m.Req.To})
	}
	w.s.Coord, e = coord.Begin(w.s.Coord, m.Txn, m.Req, peers)
	w.ok(e)
}

func (w *plain) end(t api.Txn, a api.Answer) {
	l, e := session.End(w.s.Sessions, t, a)
	w.ok(e)
	w.s.Sessions = l
	w.told = append(w.told, api.Message{Kind: 7, From: w.s.Group, To: -1, Txn: t, Answer: a})
}

func (w *plain) learn(key api.Key, group, version int) {
	l, e := shardmap.Learn(w.s.Map, place(key, group, version))
	w.ok(e)
	w.s.Map = l
}

func (w *plain) finish(m api.Message) {
	was := w.s.Part
	p, told, marks, e := part.Finish(was, m)
	if !w.ok(e) {
		return
	}
	w.s.Part, w.told, w.marks = p, told, marks
	here := func(c api.Cell) bool { return c.Key == m.Key }
	from, to := slices.IndexFunc(was.Cells, here), slices.IndexFunc(p.Cells, here)
	if from < 0 && to >= 0 {
		w.learn(m.Key, w.s.Group, p.Cells[to].Version)
	}
	if from >= 0 && to < 0 {
		at := slices.IndexFunc(was.Pends, func(x api.Pend) bool { return x.Txn == m.Txn && x.Key == m.Key })
		w.learn(m.Key, was.Pends[at].Req.To, was.Cells[from].Version+1)
	}
}

func (w *plain) hear(m api.Message) {
	if m.Kind == api.MsgVote && m.Answer.Code == 5 && m.Req != (api.Request{}) {
		w.learn(m.Key, m.Req.To, m.Answer.Num)
	}
	c, marks, e := coord.Hear(w.s.Coord, m)
	if e != api.OK {
		return
	}
	w.s.Coord, w.marks = c, marks
	for _, t := range c.Trans {
		if t.Txn == m.Txn && len(marks) == 1 && t.Req.Kind == api.ReqMove && len(t.Cells) > 0 {
			w.learn(t.Req.Key, t.Req.To, t.Cells[0].Version+1)
		}
	}
	for {
		c, t, ok := coord.Ended(w.s.Coord)
		if !ok {
			return
		}
		w.s.Coord = c
		w.end(t.Txn, t.Answer)
	}
}

func plainHint(s api.Shard, m api.Message) api.Message {
	if m.Kind == api.MsgVote && m.Answer.Code == api.ErrMoved {
		p, _ := shardmap.Owner(s.Map, m.Key, s.Groups)
		m.Req = api.Request{Kind: 9, Key: m.Key, To: p.Group}
		m.Answer.Num = p.Version
	}
	return m
}

func plainOut(s api.Shard) []api.Message {
	l := coord.Out(s.Coord)
	for _, m := range part.Out(s.Part) {
		l = append(l, plainHint(s, m))
	}
	return l
}

// clone copies all lists of a value.
func clone[T any](v T) T {
	detach(reflect.ValueOf(&v).Elem())
	return v
}

func detach(v reflect.Value) {
	switch v.Kind() {
	case reflect.Slice:
		l := reflect.MakeSlice(v.Type(), v.Len(), v.Len())
		reflect.Copy(l, v)
		v.Set(l)
		for i := range v.Len() {
			detach(v.Index(i))
		}
	case reflect.Struct:
		for i := range v.NumField() {
			detach(v.Field(i))
		}
	}
}

// same takes a list that is nil for one that is empty, as the words do.
func same(a, b any) bool { return alike(reflect.ValueOf(a), reflect.ValueOf(b)) }

func alike(a, b reflect.Value) bool {
	if a.Type() != b.Type() {
		return false
	}
	ok := true
	switch a.Kind() {
	case reflect.Slice:
		ok = a.Len() == b.Len()
		for i := 0; ok && i < a.Len(); i++ {
			ok = alike(a.Index(i), b.Index(i))
		}
	case reflect.Struct:
		for i := 0; ok && i < a.NumField(); i++ {
			ok = alike(a.Field(i), b.Field(i))
		}
	default:
		ok = a.Equal(b)
	}
	return ok
}

// brief keeps a failure's text short.
func brief(v any) string {
	s := fmt.Sprintf("%+v", v)
	if len(s) > 900 {
		return s[:900] + " .."
	}
	return s
}

// span is the memory of a list, its spare room too.
type span struct{ from, to uintptr }

// spans are those of all lists of a value.
func spans(v reflect.Value) []span {
	var l []span
	switch v.Kind() {
	case reflect.Slice:
		if size := uintptr(v.Cap()) * v.Type().Elem().Size(); size > 0 {
			l = append(l, span{v.Pointer(), v.Pointer() + size})
		}
		for i := range v.Len() {
			l = append(l, spans(v.Index(i))...)
		}
	case reflect.Struct:
		for i := range v.NumField() {
			l = append(l, spans(v.Field(i))...)
		}
	}
	return l
}

// holdApart: no two lists of some values share memory.
func holdApart(t *testing.T, values ...any) {
	t.Helper()
	var l []span
	for _, v := range values {
		l = append(l, spans(reflect.ValueOf(v))...)
	}
	slices.SortFunc(l, func(a, b span) int { return cmp.Compare(a.from, b.from) })
	for i := 1; i < len(l); i++ {
		if l[i].from < l[i-1].to {
			t.Fatalf("R5: two lists share memory: %s", brief(values))
		}
	}
}
