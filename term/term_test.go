package term_test

import (
	"math"
	"math/rand"
	"slices"
	"testing"

	"rialto/api"
	"rialto/term"
)

var follower = api.Ballot{Role: api.RoleFollower}

// wrongNumbers are below and above everything that a term, an index or a node may be.
var wrongNumbers = []int{math.MinInt, math.MinInt32, -1000000, -1, 1000001, math.MaxInt32, math.MaxInt}

func same(a, b api.Ballot) bool {
	return a.Hard == b.Hard && a.Role == b.Role && slices.Equal(a.Got, b.Got)
}

func ballot(hardTerm, vote, role int, got ...int) api.Ballot {
	return api.Ballot{Hard: api.Hard{Term: hardTerm, Vote: vote}, Role: role, Got: got}
}

// The ballots by the words: plain.

func plainMayBe(b api.Ballot) bool {
	if b.Hard.Term < 0 || b.Hard.Term > 1000000 || b.Hard.Vote < 0 || b.Hard.Vote > 7 {
		return false
	}
	if b.Hard.Term == 0 && b.Hard.Vote > 0 {
		return false
	}
	if b.Role == 1 {
		return len(b.Got) == 0
	}
	if b.Role != 2 && b.Role != 3 || b.Hard.Term == 0 || b.Hard.Vote == 0 {
		return false
	}
	among := false
	for i, node := range b.Got {
		if node < 1 || node > 7 || i > 0 && node <= b.Got[i-1] {
			return false
		}
		among = among || node == b.Hard.Vote
	}
	return among
}

func plainIsMark(s api.Spot) bool {
	if s.Index == 0 || s.Term == 0 {
		return s.Index == 0 && s.Term == 0
	}
	return 1 <= s.Index && s.Index <= 1000000 && 1 <= s.Term && s.Term <= 1000000
}

func plainIsTerm(n int) bool { return 1 <= n && n <= 1000000 }

// plainMajority counts what is not there.
func plainMajority(l []int, n int) bool { return n-len(l) < len(l) }

func plainBegin(b api.Ballot, me, n int) (api.Ballot, api.Errno) {
	switch {
	case !plainMayBe(b):
		return api.Ballot{}, 70
	case n < 1 || n > 7 || me < 1 || me > n:
		return api.Ballot{}, 1
	case b.Hard.Term == 1000000:
		return api.Ballot{}, 2
	case n == 1:
		return ballot(b.Hard.Term+1, me, 3, me), 0
	}
	return ballot(b.Hard.Term+1, me, 2, me), 0
}

func plainHear(b api.Ballot, t int) (api.Ballot, api.Errno) {
	switch {
	case !plainMayBe(b):
		return api.Ballot{}, 70
	case !plainIsTerm(t):
		return api.Ballot{}, 1
	case t > b.Hard.Term:
		return ballot(t, 0, 1), 0
	}
	return b, 0
}

func plainLess(a, b api.Spot) bool {
	if a.Term != b.Term {
		return a.Term < b.Term
	}
	return a.Index < b.Index
}

func plainGrant(b api.Ballot, q api.Ask, last api.Spot) (api.Ballot, bool, api.Errno) {
	if !plainMayBe(b) {
		return api.Ballot{}, false, 70
	}
	if q.From < 1 || q.From > 7 || !plainIsTerm(q.Term) || !plainIsMark(q.Last) || !plainIsMark(last) {
		return api.Ballot{}, false, 1
	}
	b, _ = plainHear(b, q.Term)
	if b.Hard.Term != q.Term || b.Role != 1 || plainLess(q.Last, last) {
		return b, false, 0
	}
	if b.Hard.Vote != 0 && b.Hard.Vote != q.From {
		return b, false, 0
	}
	return ballot(b.Hard.Term, q.From, 1), true, 0
}

func plainCount(b api.Ballot, from, t int, ok bool, n int) (api.Ballot, api.Errno) {
	if !plainMayBe(b) {
		return api.Ballot{}, 70
	}
	if n < 1 || n > 7 || from < 1 || from > n || !plainIsTerm(t) {
		return api.Ballot{}, 1
	}
	b, _ = plainHear(b, t)
	if !ok || b.Role != 2 || b.Hard.Term != t {
		return b, 0
	}
	var got []int
	for node := 1; node <= 7; node++ {
		if node == from || slices.Contains(b.Got, node) {
			got = append(got, node)
		}
	}
	role := 2
	if plainMajority(got, n) {
		role = 3
	}
	return ballot(t, b.Hard.Vote, role, got...), 0
}

// Each call held against the plain one. What is handed in is held on the way, with its spare room.

const spare = 5

// lent is a ballot whose list has spare room, all of it seen by the second result.
func lent(b api.Ballot) (api.Ballot, []int) {
	whole := append(slices.Clone(b.Got), make([]int, spare)...)
	for i := len(b.Got); i < len(whole); i++ {
		whole[i] = -7
	}
	b.Got = whole[:len(b.Got)]
	return b, whole
}

// spoil writes over all that an answer's list has, its spare room too, and tells whether what was lent stayed.
func spoil(answer api.Ballot, whole []int) bool {
	before := slices.Clone(whole)
	l := answer.Got[:cap(answer.Got)]
	for i := range l {
		l[i] = 99
	}
	return slices.Equal(before, whole)
}

// fresh tells whether a call left what it was lent, and answered a list of its own.
func fresh(t *testing.T, promise string, b, answer api.Ballot, whole []int) {
	t.Helper()
	want := append(slices.Clone(b.Got), -7, -7, -7, -7, -7)
	if !slices.Equal(whole, want) {
		t.Errorf("%s, R5: %v was handed in with spare room, it is %v now", promise, b, whole)
	}
	if !spoil(answer, whole) {
		t.Errorf("%s, R5: of %v: the answer shares memory with what was handed in", promise, b)
	}
}

func checkBegin(t *testing.T, b api.Ballot, me, n int) {
	t.Helper()
	in, whole := lent(b)
	is, e := term.Begin(in, me, n)
	if want, wantE := plainBegin(b, me, n); !same(is, want) || e != wantE {
		t.Errorf("P7.2: Begin(%v, %d, %d) = %v, %d, want %v, %d", b, me, n, is, e, want, wantE)
	}
	fresh(t, "P7.2", b, is, whole)
}

func checkHear(t *testing.T, b api.Ballot, n int) {
	t.Helper()
	in, whole := lent(b)
	is, e := term.Hear(in, n)
	if want, wantE := plainHear(b, n); !same(is, want) || e != wantE {
		t.Errorf("P7.3: Hear(%v, %d) = %v, %d, want %v, %d", b, n, is, e, want, wantE)
	}
	fresh(t, "P7.3", b, is, whole)
}

func checkGrant(t *testing.T, b api.Ballot, q api.Ask, last api.Spot) {
	t.Helper()
	in, whole := lent(b)
	is, ok, e := term.Grant(in, q, last)
	if want, wantOk, wantE := plainGrant(b, q, last); !same(is, want) || ok != wantOk || e != wantE {
		t.Errorf("P7.4: Grant(%v, %v, %v) = %v, %v, %d, want %v, %v, %d", b, q, last, is, ok, e, want, wantOk, wantE)
	}
	fresh(t, "P7.4", b, is, whole)
}

func checkCount(t *testing.T, b api.Ballot, from, termOf int, ok bool, n int) {
	t.Helper()
	in, whole := lent(b)
	is, e := term.Count(in, from, termOf, ok, n)
	if want, wantE := plainCount(b, from, termOf, ok, n); !same(is, want) || e != wantE {
		t.Errorf("P7.5: Count(%v, %d, %d, %v, %d) = %v, %d, want %v, %d", b, from, termOf, ok, n, is, e, want, wantE)
	}
	fresh(t, "P7.5", b, is, whole)
}

// sets are all rising lists of nodes.
func sets() [][]int {
	var all [][]int
	for bits := range 1 << 7 {
		var l []int
		for node := 1; node <= 7; node++ {
			if bits>>(node-1)&1 == 1 {
				l = append(l, node)
			}
		}
		all = append(all, l)
	}
	return all
}

// wrongSets have the vote 3 among them mostly, but are not rising lists of nodes.
func wrongSets() [][]int {
	return [][]int{{0}, {8}, {-1, 3}, {0, 3}, {3, 8}, {3, 3}, {3, 2}, {1, 3, 3}, {1, 2, 3, 2}, {7, 3}, {3, 4, 4, 5}, {0, 1, 2, 3, 4, 5, 6, 7}, {1, 2, 3, 4, 5, 6, 7, 8}, {1, 2, 3, 4, 5, 6, 7, 7}, {math.MinInt, 3}, {3, math.MaxInt}, {3, 0}}
}

// ballots are all ballots of some terms, roles and lists: those that may be, and others.
func ballots() []api.Ballot {
	var all []api.Ballot
	for _, hardTerm := range append([]int{0, 1, 2, 999999, 1000000}, wrongNumbers...) {
		for _, vote := range append([]int{0, 1, 3, 7, 8}, wrongNumbers...) {
			for role := -1; role <= 4; role++ {
				for _, got := range append(sets(), wrongSets()...) {
					all = append(all, ballot(hardTerm, vote, role, got...))
				}
			}
		}
	}
	return all
}

func TestWhichBallotsMayBe(t *testing.T) {
	may := 0
	for _, b := range ballots() {
		if plainMayBe(b) {
			may++
		}
		checkBegin(t, b, 1, 3)
		checkHear(t, b, 2)
		checkGrant(t, b, api.Ask{From: 1, Term: 2}, api.Spot{})
		checkCount(t, b, 2, 2, true, 5)
		if t.Failed() {
			return
		}
	}
	if may < 1000 {
		t.Fatalf("only %d ballots that may be were tried", may)
	}
}

func TestLess(t *testing.T) {
	numbers := append([]int{0, 1, 2, 3, 1000000}, wrongNumbers...)
	for _, i := range numbers {
		for _, j := range numbers {
			for _, k := range numbers {
				for _, l := range numbers {
					a, b := api.Spot{Index: i, Term: j}, api.Spot{Index: k, Term: l}
					if is := term.Less(a, b); is != plainLess(a, b) {
						t.Errorf("P7.1: Less(%v, %v) = %v", a, b, is)
					}
				}
			}
		}
	}
}

// some are ballots that may be, of all roles.
var some = []api.Ballot{
	ballot(0, 0, 1), ballot(1, 0, 1), ballot(5, 3, 1), ballot(999999, 7, 1), ballot(1000000, 0, 1), ballot(1000000, 1, 1),
	ballot(1, 1, 2, 1), ballot(5, 3, 2, 3), ballot(5, 3, 2, 1, 3), ballot(5, 3, 2, 3, 7), ballot(5, 3, 2, 2, 3, 4), ballot(1000000, 7, 2, 7),
	ballot(5, 3, 3, 1, 3), ballot(1, 1, 3, 1), ballot(5, 3, 3, 3), ballot(1000000, 2, 3, 1, 2, 3, 4, 5, 6, 7), ballot(5, 3, 2, 1, 2, 3, 4, 5, 6, 7),
}

func TestBegin(t *testing.T) {
	numbers := append([]int{0, 1, 2, 3, 4, 5, 6, 7, 8, 9}, wrongNumbers...)
	for _, b := range append([]api.Ballot{{}, ballot(1000000, 0, 2)}, some...) {
		for _, me := range numbers {
			for _, n := range numbers {
				checkBegin(t, b, me, n)
			}
		}
	}
}

func TestHear(t *testing.T) {
	for _, b := range append([]api.Ballot{{}}, some...) {
		for _, n := range append([]int{0, 1, 2, 4, 5, 6, 999999, 1000000}, wrongNumbers...) {
			checkHear(t, b, n)
		}
	}
}

func marks() []api.Spot {
	var l []api.Spot
	for _, index := range append([]int{0, 1, 3, 1000000}, wrongNumbers...) {
		for _, of := range append([]int{0, 1, 2, 1000000}, wrongNumbers...) {
			l = append(l, api.Spot{Index: index, Term: of})
		}
	}
	return l
}

func TestGrant(t *testing.T) {
	for _, b := range append([]api.Ballot{{}}, some...) {
		for _, from := range append([]int{0, 1, 3, 7, 8}, wrongNumbers...) {
			for _, of := range append([]int{0, 1, 4, 5, 6, 1000000}, wrongNumbers...) {
				for _, last := range []api.Spot{{Index: 4, Term: 2}, {Index: 2, Term: 3}, {Index: 3, Term: 2}, {}} {
					checkGrant(t, b, api.Ask{From: from, Term: of, Last: last}, api.Spot{Index: 3, Term: 2})
				}
			}
		}
	}
}

func TestGrantHoldsLogsAgainstEachOther(t *testing.T) {
	for _, b := range []api.Ballot{follower, ballot(5, 3, 1), ballot(5, 3, 2, 3), {}} {
		for _, asked := range marks() {
			for _, last := range marks() {
				checkGrant(t, b, api.Ask{From: 3, Term: 5, Last: asked}, last)
			}
		}
	}
}

func TestCount(t *testing.T) {
	nodes := append([]int{0, 1, 2, 3, 4, 5, 6, 7, 8, 9}, wrongNumbers...)
	for _, b := range append([]api.Ballot{{}}, some...) {
		for _, from := range nodes {
			for _, n := range nodes {
				for _, of := range append([]int{0, 1, 4, 5, 6, 1000000}, wrongNumbers...) {
					checkCount(t, b, from, of, true, n)
					checkCount(t, b, from, of, false, n)
				}
			}
		}
	}
}

// TestMajority lets a candidate of n nodes count one vote after the other: it leads just when more than half are there.
func TestMajority(t *testing.T) {
	for n, needed := range map[int]int{1: 1, 2: 2, 3: 2, 4: 3, 5: 3, 6: 4, 7: 4} {
		b, e := term.Begin(follower, n, n)
		for votes := 1; ; votes++ {
			leads := b.Role == api.RoleLeader
			if e != api.OK || leads != (votes >= needed) {
				t.Errorf("P7.2, P7.5: %d votes of %d: %v, %d", votes, n, b, e)
			}
			if votes == n || leads {
				break
			}
			b, e = term.Count(b, votes, 1, true, n)
		}
	}
}

func TestCountOnce(t *testing.T) {
	b, _ := term.Begin(follower, 2, 4)
	for range 3 {
		b, _ = term.Count(b, 4, 1, true, 4)
		b, _ = term.Count(b, 2, 1, true, 4)
	}
	if !same(b, ballot(1, 2, 2, 2, 4)) {
		t.Errorf("P7.5: 2 and 4 voted often: %v", b)
	}
}

func TestErrorsInOrder(t *testing.T) {
	wrong := ballot(1000000, 8, 1)
	if _, e := term.Begin(wrong, 0, 8); e != api.ErrTermForm {
		t.Errorf("P7.2, R2: %d", e)
	}
	if _, e := term.Begin(ballot(1000000, 0, 1), 4, 3); e != api.ErrArg {
		t.Errorf("P7.2, R2: %d", e)
	}
	if _, e := term.Begin(ballot(1000000, 0, 1), 3, 3); e != api.ErrLong {
		t.Errorf("P7.2, R2: %d", e)
	}
	if _, e := term.Hear(wrong, 0); e != api.ErrTermForm {
		t.Errorf("P7.3, R2: %d", e)
	}
	if _, _, e := term.Grant(wrong, api.Ask{}, api.Spot{}); e != api.ErrTermForm {
		t.Errorf("P7.4, R2: %d", e)
	}
	if _, e := term.Count(wrong, 0, 0, true, 0); e != api.ErrTermForm {
		t.Errorf("P7.5, R2: %d", e)
	}
}

func TestExamples(t *testing.T) {
	b, e := term.Begin(follower, 2, 3)
	if !same(b, ballot(1, 2, api.RoleCandidate, 2)) || e != api.OK {
		t.Errorf("example 1: %v, %d", b, e)
	}
	if b, e = term.Count(b, 3, 1, true, 3); !same(b, ballot(1, 2, api.RoleLeader, 2, 3)) || e != api.OK {
		t.Errorf("example 1: %v, %d", b, e)
	}
	b, ok, e := term.Grant(ballot(1, 3, api.RoleFollower), api.Ask{From: 1, Term: 2}, api.Spot{})
	if !same(b, ballot(2, 1, api.RoleFollower)) || !ok || e != api.OK {
		t.Errorf("example 2: %v, %v, %d", b, ok, e)
	}
	if b, ok, e = term.Grant(b, api.Ask{From: 3, Term: 2}, api.Spot{}); !same(b, ballot(2, 1, api.RoleFollower)) || ok || e != api.OK {
		t.Errorf("example 2: %v, %v, %d", b, ok, e)
	}
}

func TestNothingIsKept(t *testing.T) {
	for _, b := range some {
		first, e := term.Count(b, 2, 5, true, 3)
		if len(first.Got) > 0 {
			first.Got[0] = 99
		}
		again, e2 := term.Count(b, 2, 5, true, 3)
		if want, _ := plainCount(b, 2, 5, true, 3); !same(again, want) || e != e2 {
			t.Errorf("R6: Count of %v again: %v, want %v", b, again, want)
		}
	}
}

// An election: nodes that begin, ask, grant and count, while questions and answers are doubled, lost, and come late.

type letter struct {
	to     int
	ask    api.Ask
	answer bool
	from   int
	term   int
	ok     bool
}

type election struct {
	t       *testing.T
	r       *rand.Rand
	n       int
	ballots []api.Ballot // by nodes
	last    []api.Spot
	way     []letter
	leads   map[int]int    // by terms
	votes   map[[2]int]int // by nodes and terms
}

func newElection(t *testing.T, r *rand.Rand, n int) *election {
	e := &election{t: t, r: r, n: n, ballots: make([]api.Ballot, n+1), last: make([]api.Spot, n+1), leads: map[int]int{}, votes: map[[2]int]int{}}
	for node := 1; node <= n; node++ {
		e.ballots[node] = follower
		if r.Intn(2) == 0 {
			e.last[node] = api.Spot{Index: 1 + r.Intn(2), Term: 1}
		}
	}
	return e
}

// turn gives a node its next ballot, and holds it against all that was.
func (e *election) turn(node int, b api.Ballot, errno api.Errno) {
	e.t.Helper()
	if errno != api.OK {
		e.t.Fatalf("P7.6: node %d: %d", node, errno)
	}
	if b.Hard.Term < e.ballots[node].Hard.Term {
		e.t.Fatalf("P7.6: node %d's term falls: %v, %v", node, e.ballots[node], b)
	}
	at := [2]int{node, b.Hard.Term}
	if voted := e.votes[at]; voted != 0 && b.Hard.Vote != voted {
		e.t.Fatalf("P7.6: node %d's vote turns from %d: %v", node, voted, b)
	}
	e.votes[at] = b.Hard.Vote
	if b.Role == api.RoleLeader {
		if other := e.leads[b.Hard.Term]; other != 0 && other != node {
			e.t.Fatalf("P7.6: %d and %d lead in term %d", node, other, b.Hard.Term)
		}
		e.leads[b.Hard.Term] = node
	}
	e.ballots[node] = b
}

func (e *election) begin(node int) {
	b, errno := term.Begin(e.ballots[node], node, e.n)
	e.turn(node, b, errno)
	for to := 1; to <= e.n; to++ {
		if to != node {
			e.way = append(e.way, letter{to: to, ask: api.Ask{From: node, Term: b.Hard.Term, Last: e.last[node]}})
		}
	}
}

func (e *election) deliver(i int) {
	l := e.way[i]
	if e.r.Intn(4) > 0 { // else it is doubled: it may come again, much later
		e.way = slices.Delete(e.way, i, i+1)
	}
	if l.answer {
		b, errno := term.Count(e.ballots[l.to], l.from, l.term, l.ok, e.n)
		e.turn(l.to, b, errno)
		return
	}
	b, ok, errno := term.Grant(e.ballots[l.to], l.ask, e.last[l.to])
	e.turn(l.to, b, errno)
	if ok && term.Less(l.ask.Last, e.last[l.to]) {
		e.t.Fatalf("P7.4: granted to a lesser log: %v", l)
	}
	e.way = append(e.way, letter{to: l.ask.From, answer: true, from: l.to, term: b.Hard.Term, ok: ok})
}

func (e *election) step() {
	switch {
	case len(e.way) == 0 || e.r.Intn(25) == 0:
		e.begin(1 + e.r.Intn(e.n))
	case e.r.Intn(12) == 0:
		i := e.r.Intn(len(e.way))
		e.way = slices.Delete(e.way, i, i+1)
	default:
		e.deliver(e.r.Intn(len(e.way)))
	}
}

func TestElections(t *testing.T) {
	led := 0
	for seed := range 60 {
		r := rand.New(rand.NewSource(int64(seed)))
		e := newElection(t, r, 1+seed%7)
		for range 1500 {
			e.step()
		}
		led += len(e.leads)
	}
	if led < 500 {
		t.Errorf("P7.6: only %d terms had a leader", led)
	}
}

func TestAnyBallots(t *testing.T) {
	r := rand.New(rand.NewSource(7))
	numbers := append([]int{0, 1, 2, 3, 4, 5, 6, 7, 8}, wrongNumbers...)
	number := func() int {
		if r.Intn(6) == 0 {
			return numbers[r.Intn(len(numbers))]
		}
		return 1 + r.Intn(7)
	}
	lists := append(sets(), wrongSets()...)
	for range 60000 {
		b := ballot(number(), number(), 1+r.Intn(3), lists[r.Intn(len(lists))]...)
		if r.Intn(2) == 0 && len(b.Got) > 0 {
			b.Hard.Vote = b.Got[r.Intn(len(b.Got))]
		}
		checkBegin(t, b, number(), number())
		checkHear(t, b, number())
		checkGrant(t, b, api.Ask{From: number(), Term: number(), Last: api.Spot{Index: number(), Term: number()}}, api.Spot{Index: number(), Term: number()})
		checkCount(t, b, number(), number(), r.Intn(3) > 0, number())
	}
}
