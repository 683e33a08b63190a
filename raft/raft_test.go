package raft_test

import (
	"math"
	"slices"
	"strconv"
	"strings"
	"testing"
	"unsafe"

	"rialto/api"
	"rialto/net"
	"rialto/raft"
)

// wrongNumbers are below and above everything that an index, a term or a node may be.
var wrongNumbers = []int{math.MinInt, math.MinInt + 1, math.MinInt32, -1000000, -1, 1000001, 1000002, math.MaxInt32, math.MaxInt - 1, math.MaxInt}

func spot(index, of int) api.Spot { return api.Spot{Index: index, Term: of} }

func start(of int) api.Entry { return api.Entry{Term: of, Kind: api.EntryStart} }

func command(of int, text string) api.Entry {
	return api.Entry{Term: of, Kind: api.EntryCommand, Text: text}
}

// ofTerms are entries with texts unlike one another.
func ofTerms(terms ...int) []api.Entry {
	var l []api.Entry
	for i, of := range terms {
		l = append(l, command(of, "text "+strconv.Itoa(i)))
	}
	return l
}

func sameNode(a, b api.Node) bool {
	return a.Me == b.Me && a.N == b.N && a.Leader == b.Leader && a.Text == b.Text &&
		a.Ballot.Hard == b.Ballot.Hard && a.Ballot.Role == b.Ballot.Role && slices.Equal(a.Ballot.Got, b.Ballot.Got) &&
		a.Log.Base == b.Log.Base && a.Log.Commit == b.Log.Commit && slices.Equal(a.Log.L, b.Log.L) &&
		slices.Equal(a.Next, b.Next) && slices.Equal(a.Match, b.Match)
}

func sameRecord(a, b api.Record) bool {
	return a.Kind == b.Kind && a.Hard == b.Hard && a.At == b.At && slices.Equal(a.Entries, b.Entries) && a.Snap == b.Snap
}

func sameMsg(a, b api.Msg) bool {
	return a.Kind == b.Kind && a.From == b.From && a.To == b.To && a.Term == b.Term && a.Prev == b.Prev &&
		slices.Equal(a.Entries, b.Entries) && a.Commit == b.Commit && a.Ok == b.Ok && a.Match == b.Match && a.Snap == b.Snap
}

func sameOut(a, b api.Out) bool {
	return a.Index == b.Index && a.Wait == b.Wait && slices.EqualFunc(a.Records, b.Records, sameRecord) && slices.EqualFunc(a.Msgs, b.Msgs, sameMsg)
}

// What is handed in has spare room, and is looked at behind the call.

func lentList[T any](l []T, spare T) []T {
	return append(slices.Clone(l), spare, spare, spare)[:len(l)]
}

func stayedList[T comparable](l, was []T, spare T) bool {
	whole := l[:len(l)+3]
	return slices.Equal(l, was) && whole[len(l)] == spare && whole[len(l)+1] == spare && whole[len(l)+2] == spare
}

var spareEntry = api.Entry{Term: -7, Text: "spare"}

func lentNode(n api.Node) api.Node {
	n.Ballot.Got = lentList(n.Ballot.Got, -7)
	n.Log.L = lentList(n.Log.L, spareEntry)
	n.Next = lentList(n.Next, -7)
	n.Match = lentList(n.Match, -7)
	return n
}

func stayedNode(n, was api.Node) bool {
	return sameNode(n, was) && stayedList(n.Ballot.Got, was.Ballot.Got, -7) && stayedList(n.Log.L, was.Log.L, spareEntry) &&
		stayedList(n.Next, was.Next, -7) && stayedList(n.Match, was.Match, -7)
}

// memory is where lists and texts lie, from an address up to another one.
type memory struct {
	what     string
	from, to uintptr
}

func listMemory[T any](what string, l []T) memory {
	from := uintptr(unsafe.Pointer(unsafe.SliceData(l)))
	var one T
	return memory{what, from, from + uintptr(cap(l))*unsafe.Sizeof(one)}
}

func textMemory(what, s string) memory {
	from := uintptr(unsafe.Pointer(unsafe.StringData(s)))
	return memory{what, from, from + uintptr(len(s))}
}

func entriesMemory(what string, l []api.Entry) []memory {
	var texts []memory
	for _, e := range l {
		texts = append(texts, textMemory("a text of "+what, e.Text))
	}
	return texts
}

func nodeLists(n api.Node) []memory {
	return []memory{listMemory("Got", n.Ballot.Got), listMemory("L", n.Log.L), listMemory("Next", n.Next), listMemory("Match", n.Match)}
}

func nodeTexts(n api.Node) []memory {
	return append(entriesMemory("L", n.Log.L), textMemory("Text", n.Text))
}

func outLists(o api.Out) []memory {
	all := []memory{listMemory("Records", o.Records), listMemory("Msgs", o.Msgs)}
	for _, r := range o.Records {
		all = append(all, listMemory("a record's Entries", r.Entries))
	}
	for _, m := range o.Msgs {
		all = append(all, listMemory("a message's Entries", m.Entries))
	}
	return all
}

func outTexts(o api.Out) []memory {
	var all []memory
	for _, r := range o.Records {
		all = append(append(all, entriesMemory("a record's Entries", r.Entries)...), textMemory("a record's Snap", r.Snap.Text))
	}
	for _, m := range o.Msgs {
		all = append(append(all, entriesMemory("a message's Entries", m.Entries)...), textMemory("a message's Snap", m.Snap.Text))
	}
	return all
}

// shared are two of which one lies in the other, or in part.
func shared(a, b []memory) (memory, memory, bool) {
	b = slices.DeleteFunc(slices.Clone(b), func(m memory) bool { return m.from == m.to })
	slices.SortFunc(b, func(x, y memory) int { return int(x.from) - int(y.from) })
	for _, m := range a {
		if m.from == m.to {
			continue
		}
		at, _ := slices.BinarySearchFunc(b, m.from, func(x memory, from uintptr) int {
			if x.to > from {
				return 1
			}
			return -1
		})
		if at < len(b) && b[at].from < m.to {
			return m, b[at], true
		}
	}
	return memory{}, memory{}, false
}

func checkMemory(t *testing.T, promise string, n api.Node, o api.Out, lists, texts []memory) {
	t.Helper()
	answered := append(nodeLists(n), outLists(o)...)
	if a, b, yes := shared(answered, lists); yes {
		t.Errorf("%s, R5: %s of the answer shares memory with %s that was handed in", promise, a.what, b.what)
	}
	if a, b, yes := shared(append(nodeTexts(n), outTexts(o)...), texts); yes {
		t.Errorf("%s, R5: %s of the answer is %s that was handed in", promise, a.what, b.what)
	}
	for i := range answered {
		if a, b, yes := shared(answered[i:i+1], answered[i+1:]); yes {
			t.Errorf("%s, R5: %s and %s of one answer share memory", promise, a.what, b.what)
		}
	}
}

func checkStep(t *testing.T, n api.Node, e api.NodeEvent) (api.Node, api.Out, api.Errno) {
	t.Helper()
	in, inE := lentNode(n), e
	inE.Msg.Entries = lentList(e.Msg.Entries, spareEntry)
	is, out, errno := raft.Step(in, inE)
	want, wantOut, wantE := plainStep(n, e)
	if !sameNode(is, want) || !sameOut(out, wantOut) || errno != wantE {
		t.Errorf("P10.2: of %v\nStep(%v)\n= %v\n%v\n%d,\nwant %v\n%v\n%d", brief(n), brief(e), brief(is), brief(out), errno, brief(want), brief(wantOut), wantE)
	}
	if !stayedNode(in, n) || !stayedList(inE.Msg.Entries, e.Msg.Entries, spareEntry) {
		t.Errorf("P10.2, R5: Step(%v) changed what was handed in: %v, was %v", brief(e), brief(in), brief(n))
	}
	lists := append(nodeLists(in), listMemory("the message's Entries", inE.Msg.Entries))
	texts := append(append(nodeTexts(in), entriesMemory("the message's Entries", inE.Msg.Entries)...), textMemory("the event's Text", inE.Text), textMemory("the message's Snap", inE.Msg.Snap.Text))
	checkMemory(t, "P10.2", is, out, lists, texts)
	if errno == api.OK {
		checkFollows(t, n, e, is, out)
	}
	return is, out, errno
}

// checkFollows holds an answer against what P10.3 says of one step.
func checkFollows(t *testing.T, was api.Node, e api.NodeEvent, is api.Node, out api.Out) {
	t.Helper()
	if raft.Check(is) != api.OK && len(is.Ballot.Got) <= is.N { // more are there only where Count came to ones that are no nodes of the group
		t.Errorf("P10.3: of %v Step(%v) makes %v, which may not be", brief(was), brief(e), brief(is))
	}
	if is.Me != was.Me || is.N != was.N {
		t.Errorf("P10.3: of %v Step(%v) makes another node, %v", brief(was), brief(e), brief(is))
	}
	had, has := was.Ballot.Hard, is.Ballot.Hard
	if has.Term < had.Term || has.Term == had.Term && had.Vote != 0 && has.Vote != had.Vote {
		t.Errorf("P10.3: Hard %v becomes %v by %v", had, has, brief(e))
	}
	checkCommitted(t, was, is)
	for _, m := range out.Msgs {
		if _, errno := net.Encode(m); errno != api.OK || m.From != is.Me || m.To > is.N || m.Term != has.Term {
			t.Errorf("P10.3: of %v Step(%v) sends %v, which may not be", brief(was), brief(e), brief(m))
		}
	}
}

// checkCommitted: what was committed is there, or a base stands for it.
func checkCommitted(t *testing.T, was, is api.Node) {
	t.Helper()
	if is.Log.Commit < was.Log.Commit || is.Log.Base.Index < was.Log.Base.Index {
		t.Errorf("P10.3: of %v becomes %v: it commits less, or begins sooner", brief(was), brief(is))
		return
	}
	for i, e := range was.Log.L {
		at := was.Log.Base.Index + i - is.Log.Base.Index
		if was.Log.Base.Index+1+i <= was.Log.Commit && at >= 0 && is.Log.L[at] != e {
			t.Errorf("P10.3: of %v becomes %v: what was committed has gone", brief(was), brief(is))
		}
	}
}

// brief is a text of something whose long texts are cut.
func brief(v any) string {
	s := sprint(v)
	for _, c := range []string{"x", "y"} {
		s = strings.ReplaceAll(s, strings.Repeat(c, 4000), "<4000 "+c+">")
	}
	return s
}

// nodes that the tests begin with.

func follower(me, n, of int, l ...api.Entry) api.Node {
	return api.Node{Me: me, N: n, Ballot: api.Ballot{Hard: api.Hard{Term: of}, Role: api.RoleFollower}, Log: api.Log{L: l}}
}

func candidate(me, n, of int, l ...api.Entry) api.Node {
	c := follower(me, n, of, l...)
	c.Ballot = api.Ballot{Hard: api.Hard{Term: of, Vote: me}, Role: api.RoleCandidate, Got: []int{me}}
	return c
}

func leader(me, n, of int, l ...api.Entry) api.Node {
	c := candidate(me, n, of, l...)
	c.Ballot.Role = api.RoleLeader
	c.Leader = me
	c.Next, c.Match = make([]int, n+1), make([]int, n+1)
	for node := 1; node <= n; node++ {
		c.Next[node] = len(l) + 1
	}
	c.Match[me] = len(l)
	return c
}

func behind(n api.Node, base api.Spot, text string) api.Node {
	n.Log.Base, n.Log.Commit, n.Text = base, base.Index, text
	n.Next, n.Match = slices.Clone(n.Next), slices.Clone(n.Match)
	for node := 1; node < len(n.Next); node++ {
		n.Next[node] += base.Index
	}
	return n
}

func message(m api.Msg) api.NodeEvent { return api.NodeEvent{Kind: api.EvMessage, Msg: m} }

var timeout = api.NodeEvent{Kind: api.EvTimeout}

func propose(text string) api.NodeEvent { return api.NodeEvent{Kind: api.EvPropose, Text: text} }

func save(index int, text string) api.NodeEvent {
	return api.NodeEvent{Kind: api.EvSave, Index: index, Text: text}
}

// Start and Check.

func checkMay(t *testing.T, n api.Node) {
	t.Helper()
	want := api.OK
	if !plainMayBe(n) {
		want = api.ErrRaftForm
	}
	in := lentNode(n)
	if e := raft.Check(in); e != want {
		t.Errorf("P10.1: Check(%v) = %d, want %d", brief(n), e, want)
	}
	if !stayedNode(in, n) {
		t.Errorf("P10.1, R5: Check(%v) changed it", brief(n))
	}
	if want != api.OK {
		for kind := -1; kind <= 5; kind++ {
			if is, out, e := raft.Step(in, api.NodeEvent{Kind: kind}); !sameNode(is, api.Node{}) || !sameOut(out, api.Out{}) || e != want {
				t.Errorf("P10.2: Step(%v, %d) = %v, %v, %d", brief(n), kind, brief(is), brief(out), e)
			}
		}
	}
}

// some are nodes that may be, of all roles.
func some() []api.Node {
	all := []api.Node{
		follower(1, 1, 0), follower(1, 1, 1000000), follower(7, 7, 5, ofTerms(1, 2, 5)...), follower(2, 3, 2, start(1), command(2, "a")),
		candidate(1, 2, 1), candidate(3, 3, 5, ofTerms(1, 2)...), candidate(7, 7, 1000000),
		leader(1, 1, 1, start(1)), leader(2, 3, 4, ofTerms(1, 2, 4)...), leader(7, 7, 9, ofTerms(9, 9)...),
		behind(follower(1, 3, 3, ofTerms(2, 3)...), spot(5, 2), "saved"), behind(leader(1, 3, 3, ofTerms(2, 3)...), spot(5, 2), "saved"),
		behind(follower(1, 3, 3), spot(1000000, 2), ""), behind(follower(1, 3, 3), spot(5, 2), strings.Repeat("x", 50000)),
	}
	odd := candidate(1, 3, 2) // as many as there are nodes, but others
	odd.Ballot.Hard.Vote, odd.Ballot.Got = 6, []int{5, 6, 7}
	return append(all, odd)
}

// turns are changes of one field, each of which may make a node one that may not be.
func turns() []func(n *api.Node) {
	var all []func(n *api.Node)
	add := func(f func(n *api.Node)) { all = append(all, f) }
	for _, number := range append([]int{0, 1, 2, 3, 4, 5, 6, 7, 8}, wrongNumbers...) {
		add(func(n *api.Node) { n.Me = number })
		add(func(n *api.Node) { n.N = number })
		add(func(n *api.Node) { n.Me, n.N = number, number })
		add(func(n *api.Node) { n.Leader = number })
		add(func(n *api.Node) { n.Ballot.Role = number })
		add(func(n *api.Node) { n.Ballot.Hard.Term = number })
		add(func(n *api.Node) { n.Ballot.Hard.Vote = number })
		add(func(n *api.Node) { n.Log.Commit = number })
		add(func(n *api.Node) { n.Log.Base.Index = number })
		add(func(n *api.Node) { n.Log.Base.Term = number })
		add(func(n *api.Node) { n.Ballot.Got = []int{number} })
		add(func(n *api.Node) { n.Ballot.Got = append(n.Ballot.Got, number) })
		add(func(n *api.Node) { n.Next = append(n.Next, number) })
		add(func(n *api.Node) { n.Match = append(n.Match, number) })
		for at := range 8 {
			add(func(n *api.Node) { turnAt(n.Next, at, number) })
			add(func(n *api.Node) { turnAt(n.Match, at, number) })
		}
	}
	for _, text := range []string{"", "x", strings.Repeat("x", 50000), strings.Repeat("x", 50001)} {
		add(func(n *api.Node) { n.Text = text })
	}
	add(func(n *api.Node) { n.Ballot.Got = nil })
	add(func(n *api.Node) { n.Next = nil })
	add(func(n *api.Node) { n.Match = nil })
	add(func(n *api.Node) { n.Next, n.Match = nil, nil })
	add(func(n *api.Node) { n.Next = n.Next[:max(0, len(n.Next)-1)] })
	add(func(n *api.Node) { n.Match = n.Match[:max(0, len(n.Match)-1)] })
	add(func(n *api.Node) { n.Log.L = append(n.Log.L, start(1000000)) })
	add(func(n *api.Node) { n.Log.L = append(n.Log.L, api.Entry{}) })
	add(func(n *api.Node) { n.Log.L = append(n.Log.L, command(1000000, strings.Repeat("x", 4001))) })
	return all
}

func turnAt(l []int, at, number int) {
	if at < len(l) {
		l[at] = number
	}
}

func TestWhichNodesMayBe(t *testing.T) {
	may, not := 0, 0
	for _, n := range some() {
		if !plainMayBe(n) {
			t.Fatalf("%v may not be", brief(n))
		}
		checkMay(t, n)
		for _, turn := range turns() {
			turned := plainCopy(n)
			turn(&turned)
			checkMay(t, turned)
			if plainMayBe(turned) {
				may++
			} else {
				not++
			}
			last := turned.Log.Base.Index + len(turned.Log.L)
			if turned.Ballot.Role == api.RoleLeader { // at the edges, too
				for _, number := range []int{last - 1, last, last + 1, last + 2} {
					for node := range turned.Next {
						edge := plainCopy(turned)
						edge.Next[node] = number
						checkMay(t, edge)
						edge = plainCopy(turned)
						turnAt(edge.Match, node, number)
						checkMay(t, edge)
					}
				}
			}
		}
	}
	checkMay(t, api.Node{})
	long := follower(1, 1, 1, slices.Repeat(ofTerms(1), 400)...)
	checkMay(t, long)
	long.Log.L = append(long.Log.L, start(1))
	checkMay(t, long)
	if may < 300 || not < 1500 {
		t.Errorf("only %d nodes that may be and %d others were tried", may, not)
	}
}

func checkStart(t *testing.T, me, n int, h api.Hard, s api.Snapshot, l []api.Entry) {
	t.Helper()
	want, wantE := api.Node{Me: me, N: n, Ballot: api.Ballot{Hard: h, Role: 1}, Log: api.Log{Base: s.Mark, L: l, Commit: s.Mark.Index}, Text: s.Text}, api.OK
	if !plainMayBe(want) {
		want, wantE = api.Node{}, api.ErrRaftForm
	}
	in := lentList(l, spareEntry)
	is, e := raft.Start(me, n, h, s, in)
	if !sameNode(is, want) || e != wantE {
		t.Errorf("P10.1: Start(%d, %d, %v, %s, %s) = %s, %d, want %s, %d", me, n, h, brief(s), brief(l), brief(is), e, brief(want), wantE)
	}
	if !stayedList(in, l, spareEntry) {
		t.Errorf("P10.1, R5: Start changed what was handed in")
	}
	checkMemory(t, "P10.1", is, api.Out{}, []memory{listMemory("l", in)}, append(entriesMemory("l", in), textMemory("the snapshot's Text", s.Text)))
}

func TestStart(t *testing.T) {
	for _, me := range append([]int{0, 1, 3, 7, 8}, wrongNumbers...) {
		for _, n := range append([]int{0, 1, 2, 3, 7, 8}, wrongNumbers...) {
			checkStart(t, me, n, api.Hard{}, api.Snapshot{}, nil)
			checkStart(t, me, n, api.Hard{Term: 3, Vote: 7}, api.Snapshot{Mark: spot(3, 2), Text: "saved"}, ofTerms(2, 3))
		}
	}
	for _, number := range append([]int{0, 1, 2, 3, 7, 8, 1000000}, wrongNumbers...) {
		checkStart(t, 1, 3, api.Hard{Term: number}, api.Snapshot{}, nil)
		checkStart(t, 1, 3, api.Hard{Term: 5, Vote: number}, api.Snapshot{}, nil)
		checkStart(t, 1, 3, api.Hard{Vote: number}, api.Snapshot{}, nil)
		for _, other := range append([]int{0, 1, 2, 1000000}, wrongNumbers...) {
			for _, text := range []string{"", "saved"} {
				checkStart(t, 1, 3, api.Hard{Term: 5}, api.Snapshot{Mark: spot(number, other), Text: text}, nil)
				checkStart(t, 1, 3, api.Hard{Term: 5}, api.Snapshot{Mark: spot(number, other), Text: text}, ofTerms(2))
			}
		}
		checkStart(t, 1, 3, api.Hard{Term: 5}, api.Snapshot{}, ofTerms(number))
		checkStart(t, 1, 3, api.Hard{Term: 5}, api.Snapshot{}, []api.Entry{{Term: 1, Kind: number}})
	}
	for _, length := range []int{0, 1, 50000, 50001, 60000} {
		checkStart(t, 1, 3, api.Hard{Term: 5}, api.Snapshot{Mark: spot(1, 1), Text: strings.Repeat("x", length)}, nil)
	}
	for _, length := range []int{399, 400, 401} {
		checkStart(t, 1, 3, api.Hard{Term: 5}, api.Snapshot{}, slices.Repeat(ofTerms(1), length))
		checkStart(t, 1, 3, api.Hard{Term: 5}, api.Snapshot{Mark: spot(1000000-400, 1)}, slices.Repeat(ofTerms(1), length))
	}
	checkStart(t, 1, 3, api.Hard{Term: 5}, api.Snapshot{Mark: spot(4, 3)}, ofTerms(2))
	checkStart(t, 1, 3, api.Hard{Term: 1}, api.Snapshot{}, ofTerms(5)) // a log may be of terms above its own
}
