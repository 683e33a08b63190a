package part_test

import (
	"fmt"
	"reflect"
	"slices"

	"rialto/api"
	"rialto/auction"
	"rialto/book"
	"rialto/clear"
	"rialto/ledger"
	"rialto/locks"
	"rialto/session"
)

func account(n int) api.Key { return api.Key{Kind: api.KeyAccount, N: n} }

func lane(n int) api.Key { return api.Key{Kind: api.KeyLane, N: n} }

func name(client, seq int) api.Txn { return api.Txn{Client: client, Seq: seq} }

func amount(asset, n int) api.Amount { return api.Amount{Asset: asset, N: n} }

func amounts(l ...api.Amount) []api.Amount { return l }

// The calls as the words say them. What chapters 12 to 17 say is asked there.

func plainKey(k api.Key) bool {
	return k.Kind == 1 && k.N >= 1 && k.N <= 8 || k.Kind == 2 && k.N >= 1 && k.N <= 3
}

func plainName(t api.Txn) bool {
	return t.Client >= 1 && t.Client <= 6 && t.Seq >= 1 && t.Seq <= 100000
}

func plainNew(group int, keys []api.Key) (api.Part, api.Errno) {
	p := api.Part{Group: group}
	for i, k := range keys {
		if !plainKey(k) || i > 0 && 10*keys[i-1].Kind+keys[i-1].N >= 10*k.Kind+k.N {
			return api.Part{}, api.ErrArg
		}
		c := api.Cell{Key: k}
		if k.Kind == 2 {
			c.Lane.Next = 1
		}
		p.Cells = append(p.Cells, c)
	}
	if group < 0 || group > 3 {
		return api.Part{}, api.ErrArg
	}
	return p, api.OK
}

// plain is a participant on which words are done.
type plain struct {
	p     api.Part
	told  []api.Message
	marks []api.Mark
}

func (w *plain) result() (api.Part, []api.Message, []api.Mark, api.Errno) {
	return w.p, w.told, w.marks, api.OK
}

func plainForm(p api.Part, m api.Message, kind int) bool {
	return m.Kind == kind && m.To == p.Group && m.From >= 0 && m.From <= 3 && plainName(m.Txn) && plainKey(m.Key)
}

func plainPrepare(p api.Part, m api.Message) (api.Part, []api.Message, []api.Mark, api.Errno) {
	if !plainForm(p, m, api.MsgPrepare) || !session.Fits(m.Req) || !slices.Contains(session.Keys(m.Req), m.Key) {
		return api.Part{}, nil, nil, api.ErrPartForm
	}
	w := plain{p: clone(p)}
	for _, d := range p.Done {
		if d.Key == m.Key && d.Client == m.Txn.Client && d.Seq >= m.Txn.Seq {
			return w.result()
		}
	}
	for _, x := range p.Pends {
		if x.Txn == m.Txn && x.Key == m.Key {
			return w.result()
		}
	}
	table, holds, e := locks.Ask(p.Locks, m.Key, m.Txn)
	no := api.Message{Kind: api.MsgVote, From: p.Group, To: m.From, Txn: m.Txn, Key: m.Key}
	if w.cell(m.Key) == nil && !(m.Req.Kind == api.ReqMove && m.Req.To == p.Group) {
		no.Answer.Code = api.ErrMoved
		w.told = []api.Message{no}
		return w.result()
	}
	if e == api.ErrLocksFull {
		no.Answer.Code = api.ErrBusy
		w.told = []api.Message{no}
		return w.result()
	}
	w.p.Locks = table
	w.p.Pends = append(w.p.Pends, api.Pend{Txn: m.Txn, Key: m.Key, Home: m.From, Req: m.Req})
	if holds {
		w.judge(&w.p.Pends[len(w.p.Pends)-1])
	}
	return w.result()
}

func plainCell(c api.Cell, key api.Key) bool {
	if c.Key != key || c.Version < 0 || c.Version > 1000000 {
		return false
	}
	l, a := c.Lane, c.Account
	if key.Kind == 1 {
		return ledger.Check(a) == api.OK && !l.Call && l.Next == 0 && len(l.Bids)+len(l.Asks)+len(l.Owed) == 0
	}
	return book.Check(l) == api.OK && a.Count == 0 && len(a.Free) == 0
}

func plainFinish(p api.Part, m api.Message) (api.Part, []api.Message, []api.Mark, api.Errno) {
	if !plainForm(p, m, api.MsgFinish) || len(m.Cells) > 1 || len(m.Cells) == 1 && !plainCell(m.Cells[0], m.Key) {
		return api.Part{}, nil, nil, api.ErrPartForm
	}
	w := plain{p: clone(p)}
	ack := api.Message{Kind: api.MsgAck, From: p.Group, To: m.From, Txn: m.Txn, Key: m.Key}
	row := slices.IndexFunc(p.Done, func(d api.Done) bool { return d.Key == m.Key && d.Client == m.Txn.Client })
	if row >= 0 && p.Done[row].Seq > m.Txn.Seq {
		return w.result()
	}
	if row >= 0 && p.Done[row].Seq == m.Txn.Seq {
		ack.Answer = clone(p).Done[row].Answer
		w.told = []api.Message{ack}
		return w.result()
	}
	at := slices.IndexFunc(p.Pends, func(x api.Pend) bool { return x.Txn == m.Txn && x.Key == m.Key })
	if m.Yes && at < 0 || m.Yes && !p.Pends[at].Yes {
		return w.result()
	}
	if m.Yes {
		ack.Answer = w.do(p.Pends[at], m)
	}
	d := api.Done{Key: m.Key, Client: m.Txn.Client, Seq: m.Txn.Seq, Answer: ack.Answer}
	if row < 0 {
		w.p.Done = append(w.p.Done, d)
	} else {
		w.p.Done[row] = d
	}
	w.told = []api.Message{ack}
	if at < 0 {
		return w.result()
	}
	w.p.Pends = slices.Delete(w.p.Pends, at, at+1)
	table, next, _ := locks.Free(p.Locks, m.Key, m.Txn)
	w.p.Locks = table
	for i, x := range w.p.Pends {
		if x.Txn == next && x.Key == m.Key {
			w.judge(&w.p.Pends[i])
		}
	}
	return w.result()
}

func (w *plain) cell(key api.Key) *api.Cell {
	for i, c := range w.p.Cells {
		if c.Key == key {
			return &w.p.Cells[i]
		}
	}
	return nil
}

func (w *plain) judge(x *api.Pend) {
	x.Voted = true
	r, c := x.Req, w.cell(x.Key)
	if r.Kind == api.ReqMove && c != nil {
		x.Cells = []api.Cell{cloneCell(*c)}
	}
	if c == nil && !(r.Kind == api.ReqMove && r.To == w.p.Group) {
		x.Code = api.ErrMoved
		return
	}
	if c != nil && plainRejects(r, *c) {
		x.Code = api.ErrRejected
		w.marks = append(w.marks, api.Mark{Txn: x.Txn, Commit: false})
		return
	}
	x.Yes = true
	if r.Kind == api.ReqRead {
		x.Amounts = slices.Clone(c.Account.Free)
	}
	if r.Kind == api.ReqNet && x.Key.Kind == 2 {
		for _, o := range c.Lane.Owed {
			if o.Account == r.Account {
				x.Amounts = append(x.Amounts, amount(o.Asset*x.Key.N, o.N))
			}
		}
	}
}

func plainRejects(r api.Request, c api.Cell) bool {
	e := api.OK
	no := false
	if c.Key.Kind == 1 {
		switch r.Kind {
		case api.ReqDeposit:
			_, e = ledger.Credit(c.Account, r.Asset, r.N)
		case api.ReqWithdraw:
			_, e = ledger.Debit(c.Account, r.Asset, r.N)
		case api.ReqOrder:
			if r.Side == api.Sell {
				_, e = ledger.Debit(c.Account, r.Lane, r.N)
			} else {
				_, e = ledger.Debit(c.Account, 0, r.Price*r.N)
			}
		case api.ReqNet:
			no = c.Account.Count > 999999900
			for _, a := range c.Account.Free {
				no = no || a.N > 4503599627370496
			}
		}
		return no || e != api.OK
	}
	switch r.Kind {
	case api.ReqOrder:
		_, _, _, e = book.Place(c.Lane, r.Account, r.Side, r.Price, r.N, r.Now)
	case api.ReqCancel:
		_, _, e = book.Cancel(c.Lane, r.Account, r.N)
	case api.ReqCall:
		_, e = auction.Call(c.Lane)
	case api.ReqUncross:
		_, _, e = auction.Uncross(c.Lane)
	case api.ReqNet:
		for _, o := range c.Lane.Owed {
			no = no || o.Account == r.Account && o.N > 1125899906842624
		}
	}
	return no || e != api.OK
}

func (w *plain) do(x api.Pend, m api.Message) (a api.Answer) {
	r, c := x.Req, w.cell(x.Key)
	atLane := x.Key.Kind == 2
	switch {
	case r.Kind == api.ReqDeposit:
		c.Account, _ = ledger.Credit(c.Account, r.Asset, r.N)
	case r.Kind == api.ReqWithdraw:
		c.Account, _ = ledger.Debit(c.Account, r.Asset, r.N)
	case r.Kind == api.ReqOrder && atLane:
		c.Lane, a.Fills, a.Num, _ = book.Place(c.Lane, r.Account, r.Side, r.Price, r.N, r.Now)
	case r.Kind == api.ReqOrder && r.Side == api.Buy:
		c.Account, _ = ledger.Debit(c.Account, 0, r.Price*r.N)
	case r.Kind == api.ReqOrder:
		c.Account, _ = ledger.Debit(c.Account, r.Lane, r.N)
	case r.Kind == api.ReqCancel:
		c.Lane, a.Num, _ = book.Cancel(c.Lane, r.Account, r.N)
	case r.Kind == api.ReqCall:
		c.Lane, _ = auction.Call(c.Lane)
	case r.Kind == api.ReqUncross:
		c.Lane, a.Fills, _ = auction.Uncross(c.Lane)
	case r.Kind == api.ReqNet && atLane:
		c.Lane, _, _ = clear.Take(c.Lane, r.Account)
	case r.Kind == api.ReqNet:
		for _, one := range m.Answer.Amounts {
			if next, e := ledger.Credit(c.Account, one.Asset, one.N); e == api.OK {
				c.Account = next
				a.Amounts = append(a.Amounts, one)
			}
		}
	case r.Kind == api.ReqRead:
		a.Amounts = slices.Clone(x.Amounts)
	case c != nil:
		w.p.Cells = slices.DeleteFunc(w.p.Cells, func(c api.Cell) bool { return c.Key == x.Key })
	case len(m.Cells) == 1:
		came := cloneCell(m.Cells[0])
		came.Version++
		w.p.Cells = append(w.p.Cells, came)
		slices.SortFunc(w.p.Cells, func(a, b api.Cell) int { return 10*a.Key.Kind + a.Key.N - 10*b.Key.Kind - b.Key.N })
	}
	return a
}

func plainOut(p api.Part) []api.Message {
	var l []api.Message
	for _, x := range p.Pends {
		if x.Voted {
			l = append(l, api.Message{Kind: api.MsgVote, From: p.Group, To: x.Home, Txn: x.Txn, Key: x.Key, Yes: x.Yes, Answer: api.Answer{Code: x.Code, Amounts: x.Amounts}, Cells: x.Cells})
		}
	}
	for _, h := range locks.Wounds(p.Locks) {
		for _, x := range p.Pends {
			if x.Txn == h.Txn && x.Key == h.Key {
				l = append(l, api.Message{Kind: api.MsgWound, From: p.Group, To: x.Home, Txn: h.Txn})
			}
		}
	}
	return l
}

func cloneCell(c api.Cell) api.Cell {
	c.Account.Free = slices.Clone(c.Account.Free)
	c.Lane.Bids, c.Lane.Asks, c.Lane.Owed = slices.Clone(c.Lane.Bids), slices.Clone(c.Lane.Asks), slices.Clone(c.Lane.Owed)
	return c
}

func cloneCells(l []api.Cell) []api.Cell {
	l = slices.Clone(l)
	for i := range l {
		l[i] = cloneCell(l[i])
	}
	return l
}

func clone(p api.Part) api.Part {
	p.Cells = cloneCells(p.Cells)
	p.Locks = api.Table{Held: slices.Clone(p.Locks.Held), Wait: slices.Clone(p.Locks.Wait)}
	p.Pends = slices.Clone(p.Pends)
	for i, x := range p.Pends {
		p.Pends[i].Amounts, p.Pends[i].Cells = slices.Clone(x.Amounts), cloneCells(x.Cells)
	}
	p.Done = slices.Clone(p.Done)
	for i, d := range p.Done {
		p.Done[i].Answer.Amounts, p.Done[i].Answer.Fills = slices.Clone(d.Answer.Amounts), slices.Clone(d.Answer.Fills)
	}
	return p
}

// same takes a list that is nil for one that is empty, as the words do.
func same(a, b any) bool { return reflect.DeepEqual(a, b) || fmt.Sprint(a) == fmt.Sprint(b) }

// brief keeps a failure's text short.
func brief(v any) string {
	s := fmt.Sprintf("%+v", v)
	if len(s) > 900 {
		return s[:900] + " .."
	}
	return s
}
