package raft_test

import (
	"math/rand"
	"slices"
	"strings"
	"testing"

	"rialto/api"
)

// Nodes and events at random: each step is held against the plain one.

func pick[T any](r *rand.Rand, l ...T) T { return l[r.Intn(len(l))] }

func randomLog(r *rand.Rand) api.Log {
	var l api.Log
	if r.Intn(2) == 0 {
		l.Base = spot(pick(r, 1, 5, 6, 999990, 1000000), 1+r.Intn(3))
	}
	length := pick(r, 0, 1, 2, 3, 5, 16, 17, 20)
	if r.Intn(40) == 0 {
		length = 400 - r.Intn(3)
	}
	length = min(length, 1000000-l.Base.Index)
	of := max(1, l.Base.Term)
	for range length {
		of += r.Intn(6) / 5
		l.L = append(l.L, pick(r, start(of), command(of, pick(r, "", "a", "b", "cc"))))
	}
	l.Commit = l.Base.Index + r.Intn(length+1)
	return l
}

// randomGot are some nodes, rising, with the vote among them.
func randomGot(r *rand.Rand, vote, n int) []int {
	got := []int{vote}
	for range r.Intn(4) {
		got = append(got, 1+r.Intn(pick(r, n, n, n, 7)))
	}
	slices.Sort(got)
	return slices.Compact(got)
}

func randomNode(r *rand.Rand) api.Node {
	n := api.Node{N: pick(r, 1, 2, 2, 3, 3, 3, 4, 5, 7), Log: randomLog(r)}
	n.Me = 1 + r.Intn(n.N)
	if n.Log.Base.Index > 0 {
		n.Text = pick(r, "", "saved", "x")
	}
	last := n.Log.Base.Index + len(n.Log.L)
	of := n.Log.Base.Term
	if len(n.Log.L) > 0 {
		of = n.Log.L[len(n.Log.L)-1].Term
	}
	n.Ballot.Hard.Term = max(0, pick(r, of-1, of, of, of, of+1, of+1, of+3))
	if r.Intn(50) == 0 {
		n.Ballot.Hard.Term = 1000000 - r.Intn(2)
	}
	n.Leader = r.Intn(n.N + 1)
	n.Ballot.Role = pick(r, 1, 1, 2, 3, 3)
	if n.Ballot.Hard.Term == 0 {
		n.Ballot.Role = 1
		return n
	}
	n.Ballot.Hard.Vote = pick(r, 0, n.Me, 1+r.Intn(n.N), 1+r.Intn(7))
	if n.Ballot.Role == 1 {
		return n
	}
	if n.Ballot.Hard.Vote == 0 {
		n.Ballot.Hard.Vote = n.Me
	}
	n.Ballot.Got = randomGot(r, n.Ballot.Hard.Vote, n.N)
	if n.Ballot.Role == 3 {
		n.Leader = n.Me
		n.Next, n.Match = []int{0}, []int{0}
		for range n.N {
			n.Next = append(n.Next, max(1, last+1-r.Intn(min(last, len(n.Log.L)+3)+1)))
			n.Match = append(n.Match, pick(r, 0, last, max(0, last-r.Intn(len(n.Log.L)+3))))
		}
	}
	return n
}

// near is a mark that is in the log, or nearly.
func near(r *rand.Rand, l api.Log) api.Spot {
	at := r.Intn(len(l.L)+4) - 1
	mark := spot(max(0, min(1000000, l.Base.Index+at)), max(1, l.Base.Term))
	if at >= 1 && len(l.L) > 0 {
		mark.Term = l.L[min(at, len(l.L))-1].Term
	}
	if r.Intn(5) == 0 {
		mark.Term++
	}
	if mark.Index == 0 {
		mark.Term = 0
	}
	return mark
}

// sentEntries are those behind a mark in a log, some of them turned, or others.
func sentEntries(r *rand.Rand, l api.Log, prev api.Spot) []api.Entry {
	from := max(0, min(len(l.L), prev.Index-l.Base.Index))
	es := slices.Clone(l.L[from:min(len(l.L), from+r.Intn(17))])
	if len(es) > 0 && r.Intn(3) == 0 {
		at := r.Intn(len(es))
		for i := at; i < len(es); i++ {
			es[i].Term++
		}
	}
	of := max(1, prev.Term)
	if len(es) > 0 {
		of = es[len(es)-1].Term
	}
	for range r.Intn(4) * r.Intn(2) {
		of += r.Intn(3) / 2
		es = append(es, command(of, "new"))
	}
	if r.Intn(20) == 0 {
		es = append(es, start(max(1, of-1)))
	}
	return es[:min(len(es), 16)]
}

func randomMsg(r *rand.Rand, n api.Node) api.Msg {
	last := n.Log.Base.Index + len(n.Log.L)
	of := n.Ballot.Hard.Term
	m := api.Msg{Kind: 1 + r.Intn(5), From: 1 + r.Intn(n.N), To: n.Me, Term: max(1, pick(r, of, of, of, of, of, of-1, of+1, of+2))}
	if r.Intn(30) == 0 {
		m.To = r.Intn(9)
	}
	if r.Intn(30) == 0 {
		m.From = r.Intn(9)
	}
	switch m.Kind {
	case api.MsgPoll:
		m.Prev = near(r, n.Log)
	case api.MsgGrant:
		m.Ok = r.Intn(4) > 0
	case api.MsgAppend:
		m.Prev = near(r, n.Log)
		m.Entries = sentEntries(r, n.Log, m.Prev)
		m.Commit = max(0, min(1000000, n.Log.Commit+r.Intn(6)-2))
	case api.MsgAppended:
		m.Ok = r.Intn(2) == 0
		m.Match = max(0, min(1000000, pick(r, 0, last, last-r.Intn(len(n.Log.L)+3), last+1, r.Intn(9))))
	case api.MsgInstall:
		m.Snap = api.Snapshot{Mark: near(r, n.Log), Text: pick(r, "", "sent", strings.Repeat("y", 50000-r.Intn(2)))}
	}
	return m
}

func randomEvent(r *rand.Rand, n api.Node) api.NodeEvent {
	switch r.Intn(9) {
	case 0:
		return timeout
	case 1:
		return propose(pick(r, "", "p", "qq", strings.Repeat("x", 4000+r.Intn(2))))
	case 2:
		return save(n.Log.Base.Index+r.Intn(len(n.Log.L)+2), pick(r, "", "s", strings.Repeat("x", 50000+r.Intn(2))))
	}
	return message(randomMsg(r, n))
}

func TestSteps(t *testing.T) {
	r := rand.New(rand.NewSource(10))
	met := map[api.Errno]int{}
	kinds := map[int]int{}
	for range 60000 {
		n := randomNode(r)
		if !plainMayBe(n) {
			if len(n.Ballot.Got) <= n.N {
				t.Fatalf("%s may not be", brief(n))
			}
			checkMay(t, n)
			continue
		}
		e := randomEvent(r, n)
		_, out, errno := checkStep(t, n, e)
		met[errno]++
		for _, m := range out.Msgs {
			kinds[m.Kind]++
		}
		if t.Failed() {
			return
		}
	}
	for _, e := range []api.Errno{api.OK, api.ErrArg, api.ErrLong, api.ErrSnapIndex, api.ErrRaftLeader, api.ErrRaftFull} {
		if met[e] < 100 {
			t.Errorf("only %d steps answered %d", met[e], e)
		}
	}
	for kind := 1; kind <= 5; kind++ {
		if kinds[kind] < 500 {
			t.Errorf("only %d messages of kind %d were sent", kinds[kind], kind)
		}
	}
}

// TestStepsBehindSteps lets one node go on, whatever it is told; each step is held against the plain one.
func TestStepsBehindSteps(t *testing.T) {
	r := rand.New(rand.NewSource(11))
	for range 300 {
		n := randomNode(r)
		if !plainMayBe(n) {
			continue
		}
		for range 60 {
			is, _, errno := checkStep(t, n, randomEvent(r, n))
			if t.Failed() {
				return
			}
			if errno == api.OK && plainMayBe(is) {
				n = is
			}
		}
	}
}
