package shard

import (
	"strings"

	"rialto/api"
	"rialto/pack"
)

// script goes over all that a message may have, in one order: it writes that, or reads it, so that both never part.
type script struct {
	reads bool
	text  string // what is read, from at on
	at    int
	torn  bool // there was no number where one was read
	out   strings.Builder
}

// Encode writes a message as a text, Decode reads one.
func Encode(m api.Message) (string, api.Errno) {
	if !mayBe(m) {
		return "", api.ErrShardText
	}
	var s script
	s.message(&m)
	return s.out.String(), api.OK
}

// Decode holds what it read against its Encode: what is not written just so is no message's.
func Decode(t string) (api.Message, api.Errno) {
	if len(t) > api.MaxMessage {
		return api.Message{}, api.ErrShardText
	}
	s := script{reads: true, text: t}
	var m api.Message
	s.message(&m)
	if form, e := Encode(m); e != api.OK || form != t {
		return api.Message{}, api.ErrShardText
	}
	return m, api.OK
}

// list writes or reads how many there are, and each.
func list[T any](s *script, l *[]T, one func(item *T)) {
	n := len(*l)
	s.numbers(&n)
	for i := 0; i < n && !s.torn; i++ {
		if s.reads {
			var item T
			*l = append(*l, item)
		}
		one(&(*l)[i])
	}
}

func (s *script) numbers(l ...*int) {
	for _, n := range l {
		if s.reads {
			*n = s.take()
		} else {
			s.out.WriteString(pack.Int(int64(*n)))
		}
	}
}

// take reads a number: 0, from where there is none.
func (s *script) take() int {
	n, behind, e := pack.TakeInt(s.text, s.at)
	s.torn = s.torn || e != api.OK
	if s.torn {
		return 0
	}
	s.at = behind
	return int(n)
}

func (s *script) flag(b *bool) {
	n := 0
	if *b {
		n = 1
	}
	s.numbers(&n)
	if s.reads {
		*b = n == 1
	}
}

func (s *script) message(m *api.Message) {
	s.numbers(&m.Kind, &m.From, &m.To, &m.Txn.Client, &m.Txn.Seq)
	s.key(&m.Key)
	s.request(&m.Req)
	s.flag(&m.Yes)
	s.answer(&m.Answer)
	list(s, &m.Cells, s.cell)
}

func (s *script) key(k *api.Key) { s.numbers(&k.Kind, &k.N) }

func (s *script) request(r *api.Request) {
	s.numbers(&r.Kind, &r.Account, &r.Lane, &r.Asset, &r.Side, &r.Price, &r.N, &r.To)
	s.flag(&r.Now)
	s.key(&r.Key)
}

func (s *script) answer(a *api.Answer) {
	n := int(a.Code)
	s.numbers(&n, &a.Num)
	a.Code = api.Errno(n)
	list(s, &a.Amounts, s.amount)
	list(s, &a.Fills, s.fill)
}

func (s *script) cell(c *api.Cell) {
	s.key(&c.Key)
	s.numbers(&c.Version, &c.Account.Count, &c.Lane.Next)
	s.flag(&c.Lane.Call)
	list(s, &c.Account.Free, s.amount)
	list(s, &c.Lane.Bids, s.order)
	list(s, &c.Lane.Asks, s.order)
	list(s, &c.Lane.Owed, s.owed)
}

func (s *script) amount(a *api.Amount) { s.numbers(&a.Asset, &a.N) }

func (s *script) fill(f *api.Fill) { s.numbers(&f.Buyer, &f.Seller, &f.Price, &f.N) }

func (s *script) order(o *api.Order) { s.numbers(&o.Id, &o.Account, &o.Price, &o.Left) }

func (s *script) owed(o *api.Owed) { s.numbers(&o.Account, &o.Asset, &o.N) }
