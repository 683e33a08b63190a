// Package whole has no program of its own: its tests hold exchange and cluster, as wholes, against the model.
package whole

import (
	"fmt"
	"reflect"
	"slices"
	"strings"
	"testing"

	"rialto/api"
	"rialto/model"
	"rialto/shard"
)

// site is an exchange of either kind.
type site interface {
	// invoke lets a client ask, round lets all go on.
	invoke(client int, r api.Request) api.Errno
	round()

	// shards are the states of groups as they stand now: none, where one can't be told now.
	shards() []api.Shard
	way() []api.Message
	events() []api.Event
	marks() []api.Mark
}

// brief cuts off what nobody would read, and leaves entries' bytes out.
func brief(x any) string {
	s := strings.Map(func(r rune) rune {
		if r < ' ' || r > '~' {
			return '.'
		}
		return r
	}, fmt.Sprintf("%+v", x))
	return s[:min(len(s), 600)]
}

// plain has no list that is empty but not nil.
func plain(v reflect.Value) {
	switch v.Kind() {
	case reflect.Slice:
		if v.Len() == 0 {
			v.SetZero()
		}
		for i := range v.Len() {
			plain(v.Index(i))
		}
	case reflect.Struct:
		for i := range v.NumField() {
			plain(v.Field(i))
		}
	}
}

// same holds two against each other; they are not used any more by others.
func same[T any](a, b T) bool {
	plain(reflect.ValueOf(&a).Elem())
	plain(reflect.ValueOf(&b).Elem())
	return reflect.DeepEqual(a, b)
}

// fate is all that is known of a request.
type fate struct {
	req      api.Request
	asked    int // how many marks there were
	answered bool
	answer   api.Answer
	by       int // how many marks there were when it was answered
	commits  int // marks
	rejects  int // marks where the model rejects it
}

// fates tells of all requests by what clients asked and met: each asks one by one, and is answered once.
func fates(t *testing.T, s site) map[api.Txn]*fate {
	t.Helper()
	all := map[api.Txn]*fate{}
	made := map[int]int{}
	at := 0
	for _, e := range s.events() {
		f := all[e.Txn]
		if e.At < at {
			t.Fatalf("P23.3: %s stands behind %d marks", brief(e), at)
		}
		at = e.At
		if !e.Answered {
			made[e.Txn.Client]++
			if f != nil || e.Txn.Seq != made[e.Txn.Client] || !same(e.Answer, api.Answer{}) {
				t.Fatalf("P23.3: %s", brief(e))
			}
			all[e.Txn] = &fate{req: e.Req, asked: e.At}
			continue
		}
		if f == nil || f.answered || f.req != e.Req || e.Txn.Seq != made[e.Txn.Client] {
			t.Fatalf("P23.3: %s", brief(e))
		}
		f.answered, f.answer, f.by = true, e.Answer, e.At
	}
	return all
}

// judge lets the model do what is marked: P23.4. The model behind all marks is the answer.
func judge(t *testing.T, s site) api.Model {
	t.Helper()
	all := fates(t, s)
	m := model.New()
	for i, mark := range s.marks() {
		f := all[mark.Txn]
		if f == nil || i < f.asked || f.answered && i >= f.by {
			t.Fatalf("P23.4: the mark %d, %v, is out of its time: %s", i, mark, brief(f))
		}
		next, a := model.Do(m, f.req)
		if !mark.Commit {
			if a.Code == api.ErrRejected {
				f.rejects++
			}
			continue
		}
		f.commits++
		if a.Code != api.OK || f.commits > 1 || f.answered && f.answer.Code == api.OK && !same(a, f.answer) {
			t.Fatalf("P23.4: the mark %d, %v, of %s: the model answers %s", i, mark, brief(f), brief(a))
		}
		m = next
	}
	for txn, f := range all {
		if f.answered && f.answer.Code == api.OK != (f.commits == 1) {
			t.Fatalf("P23.4: %v: %s", txn, brief(f))
		}
		if f.answered && f.answer.Code == api.ErrRejected && f.req.Kind != api.ReqMove && f.rejects == 0 {
			t.Fatalf("P23.4: %v is rejected, but not by the model: %s", txn, brief(f))
		}
		if f.answered && f.answer.Code != api.OK && !same(f.answer, api.Answer{Code: f.answer.Code}) {
			t.Fatalf("P23.4: %v: %s", txn, brief(f))
		}
	}
	balance(t, all, m)
	return m
}

// balance: what is there is what was put in less what was taken out.
func balance(t *testing.T, all map[api.Txn]*fate, m api.Model) {
	t.Helper()
	var sums [api.MaxLanes + 1]int
	for _, f := range all {
		switch {
		case f.commits == 0:
		case f.req.Kind == api.ReqDeposit:
			sums[f.req.Asset] += f.req.N
		case f.req.Kind == api.ReqWithdraw:
			sums[f.req.Asset] -= f.req.N
		}
	}
	var want []api.Amount
	for asset, n := range sums {
		if n > 0 {
			want = append(want, api.Amount{Asset: asset, N: n})
		}
	}
	if total := model.Total(m); !slices.Equal(total, want) {
		t.Fatalf("P23.7: %v, put in were %v", total, want)
	}
}

// entire: when all that was decided is done, the cells are the model's: P23.5. No key can be written in two groups.
func entire(t *testing.T, s site, m api.Model) {
	t.Helper()
	l := s.shards()
	holdFree(t, l)
	var decided []api.Message
	for _, x := range l {
		for _, o := range shard.Out(x) {
			if o.Kind == api.MsgFinish && o.Yes {
				decided = append(decided, o)
			}
		}
	}
	for _, o := range decided {
		l[o.To], _, _ = shard.Apply(l[o.To], o)
	}
	cells := map[api.Key]api.Cell{}
	for _, x := range l {
		for _, c := range x.Part.Cells {
			if was, met := cells[c.Key]; !met || was.Version < c.Version {
				cells[c.Key] = c
			} else if was.Version == c.Version {
				t.Fatalf("P23.5: %s in two groups", brief(c))
			}
		}
	}
	for key, c := range cells {
		if key.Kind == api.KeyAccount && !same(c.Account, m.Accounts[key.N-1]) || key.Kind == api.KeyLane && !same(c.Lane, m.Lanes[key.N-1]) {
			t.Fatalf("P23.5: %s is not the model's: %s", brief(c), brief(m))
		}
	}
	if l != nil && len(cells) != api.MaxAccounts+api.MaxLanes {
		t.Fatalf("P23.5: %d keys", len(cells))
	}
}

// holdFree: each key has at most one cell without a lock.
func holdFree(t *testing.T, l []api.Shard) {
	t.Helper()
	free := map[api.Key]int{}
	for _, s := range l {
		for _, c := range s.Part.Cells {
			if !slices.ContainsFunc(s.Part.Locks.Held, func(h api.Hold) bool { return h.Key == c.Key }) {
				free[c.Key]++
			}
		}
	}
	for key, n := range free {
		if n > 1 {
			t.Fatalf("P6: %v can be written in %d groups", key, n)
		}
	}
}

// decisions keeps how transactions were decided: P3.
type decisions map[api.Txn]bool

func (d decisions) hold(t *testing.T, l []api.Message) {
	t.Helper()
	for _, m := range l {
		if m.Kind != api.MsgFinish {
			continue
		}
		if yes, met := d[m.Txn]; met && yes != m.Yes {
			t.Fatalf("P3: %v is decided otherwise: %s", m.Txn, brief(m))
		}
		d[m.Txn] = m.Yes
	}
}

// waiting are the clients who wait.
func waiting(s site) int {
	n := 0
	for _, e := range s.events() {
		if e.Answered {
			n--
		} else {
			n++
		}
	}
	return n
}
