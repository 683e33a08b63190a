package raft_test

import (
	"fmt"
	"slices"
	"strings"
	"testing"

	"rialto/api"
	"rialto/raft"
)

func sprint(v any) string { return fmt.Sprintf("%+v", v) }

// does asks for an answer that is written out.
func does(t *testing.T, what string, n api.Node, e api.NodeEvent, want api.Node, wantOut api.Out) {
	t.Helper()
	is, out, errno := checkStep(t, n, e)
	if !sameNode(is, want) || !sameOut(out, wantOut) || errno != api.OK {
		t.Errorf("P10.2: %s:\n%s\n%s\n%d,\nwant %s\n%s", what, brief(is), brief(out), errno, brief(want), brief(wantOut))
	}
}

func refuses(t *testing.T, what string, n api.Node, e api.NodeEvent, want api.Errno) {
	t.Helper()
	if is, out, errno := checkStep(t, n, e); !sameNode(is, api.Node{}) || !sameOut(out, api.Out{}) || errno != want {
		t.Errorf("P10.2, R3: %s: %s, %s, %d, want %d", what, brief(is), brief(out), errno, want)
	}
}

func hardRecord(of, vote int) api.Record {
	return api.Record{Kind: api.RecHard, Hard: api.Hard{Term: of, Vote: vote}}
}

func tailRecord(at int, l ...api.Entry) api.Record {
	return api.Record{Kind: api.RecTail, At: at, Entries: l}
}

func snapRecord(mark api.Spot, text string) api.Record {
	return api.Record{Kind: api.RecSnap, Snap: api.Snapshot{Mark: mark, Text: text}}
}

func appends(from, to, of int, prev api.Spot, commit int, l ...api.Entry) api.Msg {
	return api.Msg{Kind: api.MsgAppend, From: from, To: to, Term: of, Prev: prev, Commit: commit, Entries: l}
}

func appended(from, to, of int, ok bool, match int) api.Msg {
	return api.Msg{Kind: api.MsgAppended, From: from, To: to, Term: of, Ok: ok, Match: match}
}

func install(from, to, of int, mark api.Spot, text string) api.Msg {
	return api.Msg{Kind: api.MsgInstall, From: from, To: to, Term: of, Snap: api.Snapshot{Mark: mark, Text: text}}
}

func poll(from, to, of int, last api.Spot) api.Msg {
	return api.Msg{Kind: api.MsgPoll, From: from, To: to, Term: of, Prev: last}
}

func grant(from, to, of int, ok bool) api.Msg {
	return api.Msg{Kind: api.MsgGrant, From: from, To: to, Term: of, Ok: ok}
}

func TestKinds(t *testing.T) {
	for _, n := range some() {
		for _, kind := range append([]int{0, 5, 6}, wrongNumbers...) {
			refuses(t, "no kind", n, api.NodeEvent{Kind: kind}, api.ErrArg)
		}
	}
	if _, _, e := raft.Step(api.Node{}, api.NodeEvent{}); e != api.ErrRaftForm {
		t.Errorf("R2: %d", e)
	}
}

func TestExamples(t *testing.T) {
	n, _ := raft.Start(1, 1, api.Hard{}, api.Snapshot{}, nil)
	one := leader(1, 1, 1, start(1))
	one.Log.Commit, one.Next = 1, []int{0, 1}
	does(t, "example 1", n, timeout, one, api.Out{Records: []api.Record{hardRecord(1, 1), tailRecord(1, start(1))}, Wait: true})
	two := plainCopy(one)
	two.Log.L, two.Log.Commit, two.Match = append(two.Log.L, command(1, "a")), 2, []int{0, 2}
	does(t, "example 1", one, propose("a"), two, api.Out{Records: []api.Record{tailRecord(2, command(1, "a"))}, Index: 2})

	n, _ = raft.Start(1, 3, api.Hard{}, api.Snapshot{}, nil)
	asks := candidate(1, 3, 1)
	does(t, "example 2", n, timeout, asks, api.Out{Records: []api.Record{hardRecord(1, 1)}, Msgs: []api.Msg{poll(1, 2, 1, spot(0, 0)), poll(1, 3, 1, spot(0, 0))}, Wait: true})
	leads := leader(1, 3, 1, start(1))
	leads.Ballot.Got, leads.Next = []int{1, 2}, []int{0, 1, 1, 1}
	sent := []api.Msg{appends(1, 2, 1, spot(0, 0), 0, start(1)), appends(1, 3, 1, spot(0, 0), 0, start(1))}
	does(t, "example 2", asks, message(grant(2, 1, 1, true)), leads, api.Out{Records: []api.Record{tailRecord(1, start(1))}, Msgs: sent, Wait: true})
	committed := plainCopy(leads)
	committed.Log.Commit, committed.Match, committed.Next = 1, []int{0, 1, 0, 1}, []int{0, 1, 1, 2}
	does(t, "example 2", leads, message(appended(3, 1, 1, true, 1)), committed, api.Out{})
}

func TestTimeout(t *testing.T) {
	n := follower(2, 3, 4, ofTerms(1, 3)...)
	n.Leader, n.Ballot.Hard.Vote = 3, 3
	asks := candidate(2, 3, 5, ofTerms(1, 3)...)
	polls := []api.Msg{poll(2, 1, 5, spot(2, 3)), poll(2, 3, 5, spot(2, 3))}
	does(t, "a follower", n, timeout, asks, api.Out{Records: []api.Record{hardRecord(5, 2)}, Msgs: polls, Wait: true})
	again := plainCopy(asks)
	again.Ballot.Got, again.Leader, again.Ballot.Hard.Term = []int{1, 2}, 1, 4
	does(t, "a candidate", again, timeout, asks, api.Out{Records: []api.Record{hardRecord(5, 2)}, Msgs: polls, Wait: true})

	n.Ballot.Hard.Term = 1000000
	refuses(t, "the last term", n, timeout, api.ErrRaftFull)
	n.Ballot.Hard.Term = 999999
	if is, _, e := checkStep(t, n, timeout); e != api.OK || is.Ballot.Hard.Term != 1000000 {
		t.Errorf("P10.2: the term ahead of the last: %d", e)
	}

	l := behind(leader(2, 4, 6, ofTerms(3, 6, 6)...), spot(10, 3), "saved")
	l.Next, l.Log.Commit = []int{0, 10, 1, 11, 14}, 11
	beats := []api.Msg{install(2, 1, 6, spot(10, 3), "saved"), appends(2, 3, 6, spot(10, 3), 11, ofTerms(3, 6, 6)...), appends(2, 4, 6, spot(13, 6), 11)}
	does(t, "a leader", l, timeout, l, api.Out{Msgs: beats, Wait: true})
}

// TestBatch: of many entries 16 are sent.
func TestBatch(t *testing.T) {
	l := leader(1, 2, 1, slices.Repeat(ofTerms(1), 20)...)
	for next := 1; next <= 21; next++ {
		l.Next[2] = next
		_, out, _ := checkStep(t, l, timeout)
		if len(out.Msgs) != 1 || len(out.Msgs[0].Entries) != min(16, 21-next) || out.Msgs[0].Prev.Index != next-1 {
			t.Errorf("P10.2: from %d on: %v", next, out.Msgs)
		}
	}
}

func TestLeadIsRefused(t *testing.T) {
	full := slices.Repeat(ofTerms(1), 400)
	for what, n := range map[string]api.Node{
		"a full log":             follower(1, 1, 3, full...),
		"the last index":         behind(follower(1, 1, 3), spot(1000000, 2), "x"),
		"a log of a later term":  follower(1, 1, 3, ofTerms(5)...),
		"a base of a later term": behind(follower(1, 1, 3), spot(4, 5), "x"),
	} {
		refuses(t, what, n, timeout, api.ErrRaftFull)
		c := candidate(1, 3, 4)
		c.Log, c.Text = n.Log, n.Text
		refuses(t, what, c, message(grant(3, 1, 4, true)), api.ErrRaftFull)
		if _, _, e := checkStep(t, c, message(grant(3, 1, 4, false))); e != api.OK {
			t.Errorf("P10.2: %s, not granted: %d", what, e)
		}
	}
	for what, n := range map[string]api.Node{
		"nearly a full log":   follower(1, 1, 3, full[:399]...),
		"nearly the last one": behind(follower(1, 1, 3), spot(999999, 2), "x"),
		"a log of its term":   follower(1, 1, 3, ofTerms(4)...),
	} {
		if _, _, e := checkStep(t, n, timeout); e != api.OK {
			t.Errorf("P10.2: %s: %d", what, e)
		}
	}
}

func TestPropose(t *testing.T) {
	long := strings.Repeat("x", 4001)
	refuses(t, "a follower", follower(1, 1, 3), propose(""), api.ErrRaftLeader)
	refuses(t, "a candidate, too long", candidate(1, 1, 3), propose(long), api.ErrRaftLeader)
	refuses(t, "too long", leader(1, 1, 3, ofTerms(3)...), propose(long), api.ErrLong)
	full := leader(1, 1, 3, slices.Repeat(ofTerms(3), 400)...)
	refuses(t, "a full log", full, propose("a"), api.ErrRaftFull)
	refuses(t, "a full log, too long", full, propose(long), api.ErrLong)
	refuses(t, "the last index", behind(leader(1, 1, 3), spot(1000000, 3), ""), propose("a"), api.ErrRaftFull)
	refuses(t, "a log of a later term", leader(1, 1, 3, ofTerms(4)...), propose("a"), api.ErrRaftFull)

	n := leader(2, 3, 3, ofTerms(1, 3)...)
	n.Next, n.Match = []int{0, 3, 1, 2}, []int{0, 2, 0, 1}
	is := plainCopy(n)
	last := command(3, long[:4000])
	is.Log.L, is.Log.Commit, is.Match = append(is.Log.L, last), 2, []int{0, 2, 3, 1}
	sent := []api.Msg{appends(2, 1, 3, spot(2, 3), 2, last), appends(2, 3, 3, spot(1, 1), 2, is.Log.L[1], last)}
	does(t, "a leader", n, propose(last.Text), is, api.Out{Records: []api.Record{tailRecord(3, last)}, Msgs: sent, Index: 3})
	if _, out, e := checkStep(t, n, propose("")); e != api.OK || out.Index != 3 || out.Wait {
		t.Errorf("P10.2: an empty text: %v, %d", out, e)
	}
}

func TestSave(t *testing.T) {
	long := strings.Repeat("x", 50001)
	n := follower(1, 3, 3, ofTerms(1, 2, 3)...)
	n.Log.Commit = 2
	for _, index := range append([]int{0, 3, 4}, wrongNumbers...) {
		refuses(t, "an index", n, save(index, "s"), api.ErrSnapIndex)
		refuses(t, "an index, too long", n, save(index, long), api.ErrLong)
	}
	refuses(t, "too long", n, save(1, long), api.ErrLong)
	for _, role := range []api.Node{n, candidate(1, 3, 3, n.Log.L...), leader(1, 3, 3, n.Log.L...)} {
		role.Log.Commit = 2
		for _, text := range []string{"", "s", long[:50000]} {
			is := plainCopy(role)
			is.Log.Base, is.Log.L, is.Text = spot(2, 2), role.Log.L[2:], text
			does(t, "saved", role, save(2, text), is, api.Out{Records: []api.Record{snapRecord(spot(2, 2), text)}})
			refuses(t, "saved again", is, save(2, text), api.ErrSnapIndex)
			refuses(t, "saved again", is, save(1, text), api.ErrSnapIndex)
			is.Log.Commit = 3
			role := plainCopy(is)
			is.Log.Base, is.Log.L, is.Text = spot(3, 3), nil, "t"
			does(t, "saved a second time", role, save(3, "t"), is, api.Out{Records: []api.Record{snapRecord(spot(3, 3), "t")}})
		}
	}
}

func TestMessagesThatAreRefused(t *testing.T) {
	n := follower(2, 3, 3)
	kinds := []api.Msg{poll(1, 2, 3, spot(0, 0)), grant(1, 2, 3, true), appends(1, 2, 3, spot(0, 0), 0), appended(1, 2, 3, true, 0), install(1, 2, 3, spot(1, 1), "")}
	for _, m := range kinds {
		if _, _, e := checkStep(t, n, message(m)); e != api.OK {
			t.Errorf("P10.2: %v: %d", m, e)
		}
		for _, node := range append([]int{0, 1, 2, 3, 4, 7, 8}, wrongNumbers...) {
			to, from := m, m
			to.To, from.From = node, node
			if node != 2 {
				refuses(t, "to another one", n, message(to), api.ErrArg)
			}
			if node != 1 && node != 3 {
				refuses(t, "from none", n, message(from), api.ErrArg)
			}
		}
		for _, of := range append([]int{0}, wrongNumbers...) {
			turned := m
			turned.Term = of
			refuses(t, "no term", n, message(turned), api.ErrArg)
		}
		for _, kind := range append([]int{0, 6}, wrongNumbers...) {
			turned := m
			turned.Kind = kind
			refuses(t, "no kind", n, message(turned), api.ErrArg)
		}
		turned := m
		turned.Ok = true
		turned.Commit = 1
		refuses(t, "a field of another kind", n, message(turned), api.ErrArg)
	}
	refuses(t, "no mark", n, message(poll(1, 2, 3, spot(1, 0))), api.ErrArg)
	refuses(t, "too many entries", n, message(appends(1, 2, 3, spot(0, 0), 0, slices.Repeat(ofTerms(1), 17)...)), api.ErrArg)
	refuses(t, "a snapshot of nothing", n, message(install(1, 2, 3, spot(0, 0), "")), api.ErrArg)
	refuses(t, "no message", n, message(api.Msg{}), api.ErrArg)
	refuses(t, "alone", follower(1, 1, 3), message(grant(2, 1, 3, true)), api.ErrArg)
}

// TestALaterTerm: whatever a message says, a later term turns all that was.
func TestALaterTerm(t *testing.T) {
	follow := follower(2, 3, 9, ofTerms(1, 3)...)
	was := follower(2, 3, 3, ofTerms(1, 3)...)
	was.Leader = 1
	for _, n := range []api.Node{was, candidate(2, 3, 3, was.Log.L...), leader(2, 3, 3, was.Log.L...)} {
		hard := []api.Record{hardRecord(9, 0)}
		does(t, "grant", n, message(grant(3, 2, 9, true)), follow, api.Out{Records: hard})
		does(t, "appended", n, message(appended(3, 2, 9, true, 1)), follow, api.Out{Records: hard})
		does(t, "poll of a lesser log", n, message(poll(3, 2, 9, spot(1, 3))), follow, api.Out{Records: hard, Msgs: []api.Msg{grant(2, 3, 9, false)}})
		voted := plainCopy(follow)
		voted.Ballot.Hard.Vote = 3
		does(t, "poll", n, message(poll(3, 2, 9, spot(2, 3))), voted, api.Out{Records: []api.Record{hardRecord(9, 3)}, Msgs: []api.Msg{grant(2, 3, 9, true)}, Wait: true})
		led := plainCopy(follow)
		led.Leader = 3
		does(t, "append", n, message(appends(3, 2, 9, spot(9, 9), 0)), led, api.Out{Records: hard, Msgs: []api.Msg{appended(2, 3, 9, false, 2)}, Wait: true})
		led.Log = api.Log{Base: spot(7, 7), Commit: 7}
		led.Text = "s"
		does(t, "install", n, message(install(3, 2, 9, spot(7, 7), "s")), led, api.Out{Records: []api.Record{hardRecord(9, 0), snapRecord(spot(7, 7), "s")}, Msgs: []api.Msg{appended(2, 3, 9, true, 7)}, Wait: true})
	}
}

func TestPoll(t *testing.T) {
	n := follower(2, 3, 4, ofTerms(1, 3)...)
	n.Leader = 1
	voted := plainCopy(n)
	voted.Ballot.Hard.Vote = 3
	yes, no := []api.Msg{grant(2, 3, 4, true)}, []api.Msg{grant(2, 3, 4, false)}
	does(t, "a log like its own", n, message(poll(3, 2, 4, spot(2, 3))), voted, api.Out{Records: []api.Record{hardRecord(4, 3)}, Msgs: yes, Wait: true})
	does(t, "again", voted, message(poll(3, 2, 4, spot(2, 3))), voted, api.Out{Msgs: yes, Wait: true})
	does(t, "another one", voted, message(poll(1, 2, 4, spot(9, 4))), voted, api.Out{Msgs: []api.Msg{grant(2, 1, 4, false)}})
	does(t, "a lesser log", n, message(poll(3, 2, 4, spot(9, 2))), n, api.Out{Msgs: no})
	does(t, "an earlier term", n, message(poll(3, 2, 3, spot(9, 3))), n, api.Out{Msgs: no})
	c, l := candidate(2, 3, 4, ofTerms(1)...), leader(2, 3, 4, ofTerms(4)...)
	does(t, "a candidate", c, message(poll(3, 2, 4, spot(9, 4))), c, api.Out{Msgs: no})
	does(t, "a leader", l, message(poll(3, 2, 4, spot(9, 4))), l, api.Out{Msgs: no})
	b := behind(follower(2, 3, 4), spot(8, 3), "s")
	does(t, "behind a snapshot", b, message(poll(3, 2, 4, spot(7, 3))), b, api.Out{Msgs: no})
}

func TestGrant(t *testing.T) {
	c := candidate(2, 5, 4, ofTerms(1, 3)...)
	more := plainCopy(c)
	more.Ballot.Got = []int{2, 4}
	does(t, "not enough", c, message(grant(4, 2, 4, true)), more, api.Out{})
	does(t, "twice", more, message(grant(4, 2, 4, true)), more, api.Out{})
	does(t, "not granted", more, message(grant(5, 2, 4, false)), more, api.Out{})
	does(t, "of an earlier term", more, message(grant(5, 2, 3, true)), more, api.Out{})
	leads := leader(2, 5, 4, append(ofTerms(1, 3), start(4))...)
	leads.Ballot.Got, leads.Next = []int{1, 2, 4}, []int{0, 3, 3, 3, 3, 3}
	var sent []api.Msg
	for _, to := range []int{1, 3, 4, 5} {
		sent = append(sent, appends(2, to, 4, spot(2, 3), 0, start(4)))
	}
	more.Leader = 5
	does(t, "enough", more, message(grant(1, 2, 4, true)), leads, api.Out{Records: []api.Record{tailRecord(3, start(4))}, Msgs: sent, Wait: true})
	does(t, "one more", leads, message(grant(5, 2, 4, true)), leads, api.Out{})
	f := follower(2, 5, 4)
	does(t, "a follower", f, message(grant(5, 2, 4, true)), f, api.Out{})
	b := behind(candidate(1, 2, 4), spot(6, 2), "s")
	led := behind(leader(1, 2, 4, start(4)), spot(6, 2), "s")
	led.Ballot.Got, led.Next, led.Match = []int{1, 2}, []int{0, 7, 7}, []int{0, 7, 0}
	does(t, "behind a snapshot", b, message(grant(2, 1, 4, true)), led, api.Out{Records: []api.Record{tailRecord(7, start(4))}, Msgs: []api.Msg{appends(1, 2, 4, spot(6, 2), 6, start(4))}, Wait: true})
}

// TestVotesOfOthers: who is in Got is counted, whatever its number; so one that is a node comes to those that are none.
func TestVotesOfOthers(t *testing.T) {
	c := candidate(1, 2, 4)
	c.Ballot.Hard.Vote, c.Ballot.Got = 6, []int{5, 6}
	is, out, e := checkStep(t, c, message(grant(2, 1, 4, true)))
	if e != api.OK || is.Ballot.Role != api.RoleLeader || !slices.Equal(is.Ballot.Got, []int{2, 5, 6}) || len(out.Msgs) != 1 {
		t.Errorf("P10.2: %s, %s, %d", brief(is), brief(out), e)
	}
}

func TestAppend(t *testing.T) {
	n := follower(2, 3, 4, ofTerms(1, 1, 2, 3)...)
	n.Log.Commit = 1
	n.Ballot.Hard.Vote = 1
	led := plainCopy(n)
	led.Leader = 3
	old := appends(3, 2, 3, spot(4, 3), 4, start(3))
	does(t, "of an earlier term", n, message(old), n, api.Out{Msgs: []api.Msg{appended(2, 3, 4, false, 0)}})
	does(t, "a leader, of an earlier term", leader(2, 3, 4), message(old), leader(2, 3, 4), api.Out{Msgs: []api.Msg{appended(2, 3, 4, false, 0)}})
	does(t, "a leader, of its term", leader(2, 3, 4), message(appends(3, 2, 4, spot(0, 0), 0, start(4))), leader(2, 3, 4), api.Out{})

	say := func(what string, m api.Msg, l []api.Entry, commit int, ok bool, match int, records ...api.Record) {
		t.Helper()
		is := plainCopy(led)
		is.Log.L, is.Log.Commit = l, commit
		does(t, what, n, message(m), is, api.Out{Records: records, Msgs: []api.Msg{appended(2, 3, 4, ok, match)}, Wait: true})
		c := candidate(2, 3, 4, n.Log.L...)
		c.Log.Commit, c.Leader = n.Log.Commit, 1
		is.Ballot.Hard.Vote = 2
		does(t, what+", to a candidate", c, message(m), is, api.Out{Records: records, Msgs: []api.Msg{appended(2, 3, 4, ok, match)}, Wait: true})
	}
	whole := n.Log.L
	say("a beat", appends(3, 2, 4, spot(4, 3), 0), whole, 1, true, 4)
	say("a beat that commits", appends(3, 2, 4, spot(4, 3), 9), whole, 4, true, 4)
	say("a mark ahead", appends(3, 2, 4, spot(2, 1), 9), whole, 2, true, 2)
	say("what is there", appends(3, 2, 4, spot(1, 1), 0, whole[1:3]...), whole, 1, true, 3)
	say("one more", appends(3, 2, 4, spot(4, 3), 5, start(4)), append(slices.Clone(whole), start(4)), 5, true, 5, tailRecord(5, start(4)))
	say("others", appends(3, 2, 4, spot(1, 1), 2, whole[1], start(4)), append(slices.Clone(whole[:2]), start(4)), 2, true, 3, tailRecord(3, start(4)))
	say("the mark is not there", appends(3, 2, 4, spot(6, 3), 0), whole, 1, false, 4)
	say("the mark is another one", appends(3, 2, 4, spot(4, 4), 4), whole, 1, false, 3)
	say("the mark is another one, farther ahead", appends(3, 2, 4, spot(2, 2), 4), whole, 1, false, 1)
	say("the first mark is another one", appends(3, 2, 4, spot(1, 2), 4), whole, 1, false, 0)
	say("one just behind the end", appends(3, 2, 4, spot(5, 3), 0), whole, 1, false, 4)
	say("what is committed would go", appends(3, 2, 4, spot(0, 0), 0, start(2)), whole, 1, false, 1)
	say("terms fall", appends(3, 2, 4, spot(4, 3), 9, start(4), start(3)), whole, 1, false, 1)
	say("a start with a text", appends(3, 2, 4, spot(4, 3), 9, api.Entry{Term: 4, Kind: api.EntryStart, Text: "x"}), whole, 1, false, 1)
}

func TestAppendToALongLog(t *testing.T) {
	n := follower(1, 2, 4, slices.Repeat(ofTerms(1), 398)...)
	n.Log.Commit = 7
	led := plainCopy(n)
	led.Leader = 2
	does(t, "too many", n, message(appends(2, 1, 4, spot(398, 1), 9, start(1), start(2), start(3))), led, api.Out{Msgs: []api.Msg{appended(1, 2, 4, false, 7)}, Wait: true})
	led.Log.L, led.Log.Commit = append(led.Log.L, start(1), start(2)), 9
	does(t, "just as many", n, message(appends(2, 1, 4, spot(398, 1), 9, start(1), start(2))), led, api.Out{Records: []api.Record{tailRecord(399, start(1), start(2))}, Msgs: []api.Msg{appended(1, 2, 4, true, 400)}, Wait: true})

	b := behind(follower(1, 2, 4, ofTerms(2, 2)...), spot(30, 2), "s")
	led = plainCopy(b)
	led.Leader = 2
	does(t, "ahead of the base", b, message(appends(2, 1, 4, spot(20, 1), 0, start(1))), led, api.Out{Msgs: []api.Msg{appended(1, 2, 4, true, 30)}, Wait: true})
	led.Log.L = append(slices.Clone(b.Log.L[:1]), start(3))
	does(t, "over the base", b, message(appends(2, 1, 4, spot(28, 1), 0, start(1), start(2), start(2), start(3))), led, api.Out{Records: []api.Record{tailRecord(32, start(3))}, Msgs: []api.Msg{appended(1, 2, 4, true, 32)}, Wait: true})
}

func TestInstall(t *testing.T) {
	n := follower(2, 3, 4, ofTerms(1, 1, 2, 3)...)
	n.Log.Commit = 2
	led := plainCopy(n)
	led.Leader = 3
	old := install(3, 2, 3, spot(9, 3), "s")
	does(t, "of an earlier term", n, message(old), n, api.Out{Msgs: []api.Msg{appended(2, 3, 4, false, 0)}})
	does(t, "a leader, of its term", leader(2, 3, 4), message(install(3, 2, 4, spot(9, 3), "s")), leader(2, 3, 4), api.Out{})
	does(t, "not above what is committed", n, message(install(3, 2, 4, spot(2, 1), "s")), led, api.Out{Msgs: []api.Msg{appended(2, 3, 4, true, 2)}, Wait: true})
	does(t, "ahead of it", n, message(install(3, 2, 4, spot(1, 1), "s")), led, api.Out{Msgs: []api.Msg{appended(2, 3, 4, true, 1)}, Wait: true})
	for _, role := range []api.Node{n, candidate(2, 3, 4, n.Log.L...)} {
		for _, text := range []string{"", "s", strings.Repeat("x", 50000)} {
			role.Log.Commit = 2
			is := plainCopy(led)
			is.Ballot.Hard = role.Ballot.Hard
			is.Text = text
			is.Log = api.Log{Base: spot(3, 2), L: n.Log.L[3:], Commit: 3}
			does(t, "some stay", role, message(install(3, 2, 4, spot(3, 2), text)), is, api.Out{Records: []api.Record{snapRecord(spot(3, 2), text)}, Msgs: []api.Msg{appended(2, 3, 4, true, 3)}, Wait: true})
			is.Log = api.Log{Base: spot(3, 3), Commit: 3}
			does(t, "none stay", role, message(install(3, 2, 4, spot(3, 3), text)), is, api.Out{Records: []api.Record{snapRecord(spot(3, 3), text)}, Msgs: []api.Msg{appended(2, 3, 4, true, 3)}, Wait: true})
			is.Log = api.Log{Base: spot(1000000, 3), Commit: 1000000}
			does(t, "behind the end", role, message(install(3, 2, 4, spot(1000000, 3), text)), is, api.Out{Records: []api.Record{snapRecord(spot(1000000, 3), text)}, Msgs: []api.Msg{appended(2, 3, 4, true, 1000000)}, Wait: true})
		}
	}
}

func TestAppended(t *testing.T) {
	n := behind(leader(2, 3, 4, ofTerms(3, 4, 4)...), spot(10, 3), "s")
	n.Next, n.Match = []int{0, 12, 11, 13}, []int{0, 11, 13, 5}
	learns := func(what string, m api.Msg, next, match, commit int, sent ...api.Msg) {
		t.Helper()
		is := plainCopy(n)
		is.Next[3], is.Match[3], is.Log.Commit = next, match, commit
		does(t, what, n, message(m), is, api.Out{Msgs: sent})
	}
	l := n.Log.L
	learns("of an earlier term", appended(3, 2, 3, true, 13), 13, 5, 10)
	learns("more than there is", appended(3, 2, 4, true, 14), 13, 5, 10)
	learns("not ok, more than there is", appended(3, 2, 4, false, 14), 13, 5, 10)
	learns("all", appended(3, 2, 4, true, 13), 14, 13, 13)
	learns("some", appended(3, 2, 4, true, 12), 13, 12, 12, appends(2, 3, 4, spot(12, 4), 12, l[2]))
	learns("some of an earlier term", appended(3, 2, 4, true, 11), 13, 11, 10, appends(2, 3, 4, spot(12, 4), 10, l[2]))
	learns("less than it was", appended(3, 2, 4, true, 3), 13, 5, 10, appends(2, 3, 4, spot(12, 4), 10, l[2]))
	learns("not ok", appended(3, 2, 4, false, 11), 12, 5, 10, appends(2, 3, 4, spot(11, 3), 10, l[1:]...))
	learns("not ok, above its next", appended(3, 2, 4, false, 13), 13, 5, 10, appends(2, 3, 4, spot(12, 4), 10, l[2]))
	learns("not ok, at its next", appended(3, 2, 4, false, 12), 13, 5, 10, appends(2, 3, 4, spot(12, 4), 10, l[2]))
	learns("not ok, the base", appended(3, 2, 4, false, 10), 11, 5, 10, appends(2, 3, 4, spot(10, 3), 10, l...))
	learns("not ok, ahead of the base", appended(3, 2, 4, false, 9), 10, 5, 10, install(2, 3, 4, spot(10, 3), "s"))
	learns("not ok, its match", appended(3, 2, 4, false, 5), 6, 5, 10, install(2, 3, 4, spot(10, 3), "s"))
	learns("not ok, ahead of its match", appended(3, 2, 4, false, 0), 6, 5, 10, install(2, 3, 4, spot(10, 3), "s"))
	n.Match[3], n.Next[3] = 0, 14
	learns("not ok, nothing", appended(3, 2, 4, false, 0), 1, 0, 10, install(2, 3, 4, spot(10, 3), "s"))
	learns("ok, nothing", appended(3, 2, 4, true, 0), 14, 0, 10)
	n.Match[3], n.Next[3] = 13, 4 // its next is not behind its match
	learns("ok, next behind", appended(3, 2, 4, true, 2), 14, 13, 13)
	learns("not ok, next behind", appended(3, 2, 4, false, 2), 14, 13, 10, appends(2, 3, 4, spot(13, 4), 10))
	for _, other := range []api.Node{follower(2, 3, 4, l...), candidate(2, 3, 4, l...)} {
		does(t, "it does not lead", other, message(appended(3, 2, 4, true, 1)), other, api.Out{})
		does(t, "it does not lead", other, message(appended(3, 2, 4, false, 1)), other, api.Out{})
	}
}
