package shard_test

import (
	"math"
	"math/rand"
	"reflect"
	"testing"

	"rialto/api"
	"rialto/shard"
)

const (
	most   = 1 << 53
	counts = 1000000000
)

// edges are numbers beside which something turns.
var edges = []int{math.MinInt, -2, -1, 0, 1, 2, 3, 4, 5, 6, 7, 8, 9, 10, 40, 41, 999, 1000, 99999, 100000, 100001, 999999, 1000000, 1000001, 1000002, counts, counts + 1, most, most + 1, math.MaxInt}

func wallet(version int) api.Cell {
	return api.Cell{Key: account(8), Version: version, Account: api.Account{Free: amounts(amount(0, 7), amount(3, most)), Count: 6}}
}

func shop(version int) api.Cell {
	return api.Cell{Key: lane(2), Version: version, Lane: api.Lane{
		Call: true, Next: 5, Bids: []api.Order{{Id: 2, Account: 7, Price: 9, Left: 1}},
		Asks: []api.Order{{Id: 1, Account: 8, Price: 8, Left: 3}}, Owed: []api.Owed{{Account: 3, N: 5}, {Account: 3, Asset: 1, N: most}},
	}}
}

// fulls are messages that may be, of each kind, with all that they may have.
func fulls() []api.Message {
	x := name(4, 77)
	two := amounts(amount(0, 5), amount(2, most))
	fills := []api.Fill{{Buyer: 1, Seller: 2, Price: 3, N: 4}, {Buyer: 8, Seller: 8, Price: 1000000, N: 1000000}}
	order := api.Request{Kind: api.ReqOrder, Account: 3, Lane: 2, Side: api.Buy, Price: 12, N: 9, Now: true}
	move := api.Request{Kind: api.ReqMove, Key: lane(2), To: 3}
	return []api.Message{
		{Kind: api.MsgAsk, From: -1, To: 1, Txn: x, Req: order},
		{Kind: api.MsgAsk, From: -1, To: 0, Txn: x, Req: move},
		{Kind: api.MsgPrepare, From: 1, To: 3, Txn: x, Key: lane(2), Req: order},
		{Kind: api.MsgPrepare, From: 1, To: 3, Txn: x, Key: account(3), Req: order},
		{Kind: api.MsgPrepare, From: 1, To: 3, Txn: x, Key: lane(2), Req: move},
		{Kind: api.MsgVote, From: 2, To: 0, Txn: x, Key: lane(2), Yes: true, Answer: api.Answer{Code: 5, Num: 9, Amounts: two}, Cells: []api.Cell{shop(3)}, Req: move},
		{Kind: api.MsgVote, From: 2, To: 0, Txn: x, Key: account(8), Answer: api.Answer{Code: 6}, Cells: []api.Cell{wallet(3)}},
		{Kind: api.MsgVote, From: 2, To: 0, Txn: x, Key: account(8), Req: move},
		{Kind: api.MsgFinish, From: 2, To: 0, Txn: x, Key: lane(2), Yes: true, Answer: api.Answer{Amounts: two}, Cells: []api.Cell{shop(1000000)}},
		{Kind: api.MsgFinish, From: 2, To: 0, Txn: x, Key: account(8), Cells: []api.Cell{wallet(0)}},
		{Kind: api.MsgAck, From: 0, To: 0, Txn: x, Key: lane(2), Answer: api.Answer{Num: 1000000, Amounts: two, Fills: fills}},
		{Kind: api.MsgWound, From: 3, To: 2, Txn: x},
		{Kind: api.MsgAnswer, From: 3, To: -1, Txn: x, Answer: api.Answer{Code: 999, Num: 7, Amounts: two, Fills: fills}},
		{Kind: api.MsgAnswer, From: 3, To: -1, Txn: x},
	}
}

// turned calls with a message again and again, each time with one number, flag or list of it turned.
func turned(m api.Message, see func(m api.Message)) {
	m = clone(m)
	turn(reflect.ValueOf(&m).Elem(), func() { see(clone(m)) })
}

func turn(v reflect.Value, see func()) {
	was := reflect.New(v.Type()).Elem()
	was.Set(v)
	switch v.Kind() {
	case reflect.Int:
		for _, n := range append(edges, int(was.Int())-1, int(was.Int())+1) {
			v.SetInt(int64(n))
			see()
		}
	case reflect.Bool:
		v.SetBool(!v.Bool())
		see()
	case reflect.Struct:
		for i := range v.NumField() {
			turn(v.Field(i), see)
		}
		v.SetZero()
		see()
	case reflect.Slice:
		for i := range v.Len() {
			turn(v.Index(i), see)
		}
		for i := range v.Len() {
			v.Set(reflect.Append(was.Slice3(0, was.Len(), was.Len()), was.Index(i)))
			see()
		}
		v.Set(reflect.Append(was.Slice3(0, was.Len(), was.Len()), reflect.Zero(v.Type().Elem())))
		see()
		v.SetZero()
		see()
	}
	v.Set(was)
}

// room is how many bytes a message may take.
func room(m api.Message) int {
	n := len(m.Answer.Amounts) + len(m.Answer.Fills)
	for _, c := range m.Cells {
		n += len(c.Account.Free) + len(c.Lane.Bids) + len(c.Lane.Asks) + len(c.Lane.Owed)
	}
	return 300 + 40*n
}

// holdText: a message that may be has a text, by which it comes back; another one has none.
func holdText(t *testing.T, m api.Message) (string, bool) {
	t.Helper()
	was := clone(m)
	s, e := shard.Encode(m)
	if !same(m, was) {
		t.Fatalf("R5: %s becomes %s", brief(was), brief(m))
	}
	if !plainMayBe(m) {
		if s != "" || e != api.ErrShardText {
			t.Fatalf("P21.4: %s may not be: %q, %d", brief(m), s, e)
		}
		return "", false
	}
	if e != api.OK || len(s) > room(m) {
		t.Fatalf("P21.4: %s: %d bytes, %d", brief(m), len(s), e)
	}
	back, e := shard.Decode(s)
	if e != api.OK || !same(back, m) {
		t.Fatalf("P21.4: %s comes back as %s, %d", brief(m), brief(back), e)
	}
	holdApart(t, m, back)
	return s, true
}

// holdStrange: a text is a message's own, or none.
func holdStrange(t *testing.T, s string) {
	t.Helper()
	m, e := shard.Decode(s)
	if e == api.OK {
		if again, e := shard.Encode(m); e != api.OK || again != s {
			t.Fatalf("P21.4: %q is read as %s, which is %q, %d", s, brief(m), again, e)
		}
		return
	}
	if e != api.ErrShardText || !same(m, api.Message{}) {
		t.Fatalf("P21.4: %q: %s, %d", s, brief(m), e)
	}
}

// TestForms turns each number, flag and list of messages: each field that a kind has, and each that it has not.
func TestForms(t *testing.T) {
	texts, counted := map[string]string{}, [2]int{}
	s, _ := shard.New(0, 1)
	for _, full := range fulls() {
		if _, ok := holdText(t, full); !ok {
			t.Fatalf("P21.4: %s", brief(full))
		}
		see := func(m api.Message) {
			text, ok := holdText(t, m)
			if !ok {
				counted[0]++
				next, told, marks := shard.Apply(s, m)
				if !same(next, s) || len(told)+len(marks) != 0 {
					t.Fatalf("P21.2: %s may not be: %s, %v, %v", brief(m), brief(next), told, marks)
				}
				return
			}
			counted[1]++
			if other, met := texts[text]; met && other != brief(m) {
				t.Fatalf("P21.4: %s has the text of %s", brief(m), other)
			}
			texts[text] = brief(m)
		}
		turned(full, see)
	}
	if counted[0] < 5000 || counted[1] < 1500 {
		t.Errorf("too few of them tell something: %v", counted)
	}
	// an account's cell has no lane, and a lane's no account, be they such as may be
	strange := fulls()[6]
	strange.Cells[0].Lane = api.Lane{Next: 1}
	_, accounts := holdText(t, strange)
	strange = fulls()[8]
	strange.Cells[0].Account = wallet(0).Account
	if _, lanes := holdText(t, strange); accounts || lanes {
		t.Errorf("P21.4: %v, %v", accounts, lanes)
	}
}

// TestEnds: clients ask and are answered, groups do all else.
func TestEnds(t *testing.T) {
	for _, m := range fulls() {
		for from := -2; from <= 4; from++ {
			for to := -2; to <= 4; to++ {
				m.From, m.To = from, to
				_, ok := holdText(t, m)
				asks, answers := m.Kind == api.MsgAsk, m.Kind == api.MsgAnswer
				if want := (from == -1 && asks || from >= 0 && from <= 3 && !asks) && (to == -1 && answers || to >= 0 && to <= 3 && !answers); ok != want {
					t.Errorf("P21.4: %d from %d to %d: %v", m.Kind, from, to, ok)
				}
			}
		}
	}
}

// TestGreat: the greatest messages, and those beyond.
func TestGreat(t *testing.T) {
	m := fulls()[10]
	m.Answer.Amounts = nil
	for asset := range 4 {
		m.Answer.Amounts = append(m.Answer.Amounts, amount(asset, most))
	}
	m.Answer.Fills = nil
	for range 1000 {
		m.Answer.Fills = append(m.Answer.Fills, api.Fill{Buyer: 8, Seller: 8, Price: 1000000, N: 1000000})
	}
	if s, ok := holdText(t, m); !ok || len(s) > api.MaxMessage {
		t.Errorf("P21.4: %d", len(s))
	}
	m.Answer.Fills = append(m.Answer.Fills, m.Answer.Fills[0])
	if _, ok := holdText(t, m); ok {
		t.Error("P21.4: 1001 fills may be")
	}
	m = fulls()[8]
	l := &m.Cells[0].Lane
	*l = api.Lane{Call: true, Next: 1000001}
	for i := range 40 {
		l.Bids = append(l.Bids, api.Order{Id: 999900 + i, Account: 8, Price: 1000000, Left: 1000000})
		l.Asks = append(l.Asks, api.Order{Id: 999950 + i, Account: 8, Price: 1000000, Left: 1000000})
	}
	for i := range 16 {
		l.Owed = append(l.Owed, api.Owed{Account: 1 + i/2, Asset: i % 2, N: most})
	}
	s, ok := holdText(t, m)
	if !ok {
		t.Error("P21.4: a full book may not be")
	}
	for i := range s {
		if _, e := shard.Decode(s[:i]); e != api.ErrShardText {
			t.Errorf("P21.4: the first %d bytes of %d: %d", i, len(s), e)
		}
	}
	for _, long := range []string{string(make([]byte, api.MaxMessage)), string(make([]byte, api.MaxMessage+1)), s + s, ""} {
		if _, e := shard.Decode(long); e != api.ErrShardText {
			t.Errorf("P21.4: %d bytes: %d", len(long), e)
		}
	}
}

// TestStrange turns bytes of texts: none but a message's own text is read.
func TestStrange(t *testing.T) {
	r := rand.New(rand.NewSource(1))
	for _, m := range fulls() {
		s, _ := holdText(t, m)
		for i := range len(s) {
			if _, e := shard.Decode(s[:i]); e != api.ErrShardText {
				t.Errorf("P21.4: the beginning of a text: %q: %d", s[:i], e)
			}
			for b := range 256 {
				holdStrange(t, s[:i]+string([]byte{byte(b)})+s[i+1:])
			}
			// numbers in a form with a group too much
			holdStrange(t, s[:i]+string([]byte{s[i] | 0x80, 0})+s[i+1:])
			holdStrange(t, s[:i]+"\xff\xff\xff\xff\xff\xff\xff\xff\xff\x01"+s[i+1:])
			holdStrange(t, s[:i]+"\xfe\xff\xff\xff\xff\xff\xff\xff\xff\x01"+s[i+1:])
		}
		for b := range 256 {
			if _, e := shard.Decode(s + string([]byte{byte(b)})); e != api.ErrShardText {
				t.Errorf("P21.4: %q and %d: %d", s, b, e)
			}
		}
		for range 2000 {
			b := []byte(s)
			for range 1 + r.Intn(4) {
				b[r.Intn(len(b))] = byte(r.Intn(1 << (1 + r.Intn(8))))
			}
			holdStrange(t, string(b))
		}
	}
	for range 20000 {
		b := make([]byte, r.Intn(60))
		for i := range b {
			b[i] = byte(r.Intn(1 << (1 + r.Intn(8))))
		}
		holdStrange(t, string(b))
	}
}
