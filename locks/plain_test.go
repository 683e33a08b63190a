package locks_test

import (
	"fmt"
	"slices"

	"rialto/api"
)

func account(n int) api.Key { return api.Key{Kind: api.KeyAccount, N: n} }

func lane(n int) api.Key { return api.Key{Kind: api.KeyLane, N: n} }

func name(client, seq int) api.Txn { return api.Txn{Client: client, Seq: seq} }

func hold(key api.Key, txn api.Txn) api.Hold { return api.Hold{Key: key, Txn: txn} }

// The calls as the words say them, each word sought anew by going over all.

func plainKey(k api.Key) bool {
	return k.Kind == 1 && k.N >= 1 && k.N <= 8 || k.Kind == 2 && k.N >= 1 && k.N <= 3
}

func plainName(t api.Txn) bool {
	return t.Client >= 1 && t.Client <= 6 && t.Seq >= 1 && t.Seq <= 100000
}

func plainOlder(a, b api.Txn) bool {
	if a.Seq != b.Seq {
		return a.Seq < b.Seq
	}
	return a.Client < b.Client
}

// split puts holds by their keys, in their order.
func split(l []api.Hold) map[api.Key][]api.Txn {
	all := map[api.Key][]api.Txn{}
	for _, h := range l {
		all[h.Key] = append(all[h.Key], h.Txn)
	}
	return all
}

func plainMayBe(t api.Table) bool {
	if len(t.Held)+len(t.Wait) > 200 {
		return false
	}
	for _, h := range slices.Concat(t.Held, t.Wait) {
		if !plainKey(h.Key) || !plainName(h.Txn) {
			return false
		}
	}
	held, wait := split(t.Held), split(t.Wait)
	for _, l := range held {
		if len(l) > 1 {
			return false
		}
	}
	for key, l := range wait {
		if len(held[key]) == 0 || len(l) > 4 {
			return false
		}
		met := map[api.Txn]bool{held[key][0]: true}
		for _, txn := range l {
			if met[txn] {
				return false
			}
			met[txn] = true
		}
	}
	return true
}

func plainCheck(t api.Table) api.Errno {
	if !plainMayBe(t) {
		return api.ErrLocksForm
	}
	return api.OK
}

func plainAsk(t api.Table, key api.Key, txn api.Txn) (api.Table, bool, api.Errno) {
	one := hold(key, txn)
	held, wait := split(t.Held)[key], split(t.Wait)[key]
	next := clone(t)
	switch {
	case !plainMayBe(t):
		return api.Table{}, false, api.ErrLocksForm
	case !plainKey(key) || !plainName(txn):
		return api.Table{}, false, api.ErrArg
	case slices.Contains(t.Held, one):
		return next, true, api.OK
	case slices.Contains(t.Wait, one):
		return next, false, api.OK
	case len(t.Held)+len(t.Wait) == 200 || len(held) == 1 && len(wait) == 4:
		return api.Table{}, false, api.ErrLocksFull
	case len(held) == 0:
		next.Held = append(next.Held, one)
		return next, true, api.OK
	}
	next.Wait = append(next.Wait, one)
	return next, false, api.OK
}

func plainFree(t api.Table, key api.Key, txn api.Txn) (api.Table, api.Txn, api.Errno) {
	if !plainMayBe(t) {
		return api.Table{}, api.Txn{}, api.ErrLocksForm
	}
	if !plainKey(key) || !plainName(txn) {
		return api.Table{}, api.Txn{}, api.ErrArg
	}
	next := clone(t)
	if at := slices.Index(next.Wait, hold(key, txn)); at >= 0 {
		next.Wait = slices.Delete(next.Wait, at, at+1)
	}
	at := slices.Index(next.Held, hold(key, txn))
	if at < 0 {
		return next, api.Txn{}, api.OK
	}
	next.Held = slices.Delete(next.Held, at, at+1)
	wait := split(next.Wait)[key]
	if len(wait) == 0 {
		return next, api.Txn{}, api.OK
	}
	slices.SortFunc(wait, func(a, b api.Txn) int {
		if plainOlder(a, b) {
			return -1
		}
		return 1
	})
	at = slices.Index(next.Wait, hold(key, wait[0]))
	next.Wait = slices.Delete(next.Wait, at, at+1)
	next.Held = append(next.Held, hold(key, wait[0]))
	return next, wait[0], api.OK
}

func plainWounds(t api.Table) []api.Hold {
	if !plainMayBe(t) {
		return nil
	}
	return slices.DeleteFunc(slices.Clone(t.Held), func(h api.Hold) bool {
		return !slices.ContainsFunc(t.Wait, func(w api.Hold) bool { return w.Key == h.Key && plainOlder(w.Txn, h.Txn) })
	})
}

func same(a, b api.Table) bool { return slices.Equal(a.Held, b.Held) && slices.Equal(a.Wait, b.Wait) }

func clone(t api.Table) api.Table {
	return api.Table{Held: slices.Clone(t.Held), Wait: slices.Clone(t.Wait)}
}

// brief keeps a failure's text short.
func brief(v any) string {
	s := fmt.Sprintf("%v", v)
	if len(s) > 600 {
		return s[:600] + " .."
	}
	return s
}
