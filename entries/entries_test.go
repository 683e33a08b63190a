package entries_test

import (
	"math"
	"math/rand"
	"slices"
	"strings"
	"testing"
	"unsafe"

	"rialto/api"
	"rialto/entries"
)

// wrongNumbers are below and above everything that an index or a term may be.
var wrongNumbers = []int{math.MinInt, math.MinInt + 1, math.MinInt32, -1000000, -1, 1000001, math.MaxInt32, math.MaxInt - 1, math.MaxInt}

func spot(index, of int) api.Spot { return api.Spot{Index: index, Term: of} }

func command(of int, text string) api.Entry {
	return api.Entry{Term: of, Kind: api.EntryCommand, Text: text}
}

func start(of int) api.Entry { return api.Entry{Term: of, Kind: api.EntryStart} }

func ofTerms(terms ...int) []api.Entry {
	var l []api.Entry
	for _, of := range terms {
		l = append(l, command(of, "x"))
	}
	return l
}

func same(a, b api.Log) bool {
	return a.Base == b.Base && a.Commit == b.Commit && slices.Equal(a.L, b.L)
}

// The rules by the words: plain.

func plainIsMark(s api.Spot) bool {
	if s.Index == 0 || s.Term == 0 {
		return s.Index == 0 && s.Term == 0
	}
	return 1 <= s.Index && s.Index <= 1000000 && 1 <= s.Term && s.Term <= 1000000
}

func plainIsEntry(e api.Entry) bool {
	if e.Term < 1 || e.Term > 1000000 {
		return false
	}
	return e.Kind == 1 && len(e.Text) == 0 || e.Kind == 2 && len(e.Text) <= 4000
}

func plainAreEntries(l []api.Entry) bool {
	for i, e := range l {
		if !plainIsEntry(e) || i > 0 && e.Term < l[i-1].Term {
			return false
		}
	}
	return true
}

func plainMayBe(l api.Log) bool {
	if !plainIsMark(l.Base) || !plainAreEntries(l.L) || len(l.L) > 400 {
		return false
	}
	if len(l.L) > 0 && l.L[0].Term < l.Base.Term {
		return false
	}
	last := l.Base.Index + len(l.L)
	return last <= 1000000 && l.Base.Index <= l.Commit && l.Commit <= last
}

// plainAt is a log's entries by their indices.
func plainAt(l api.Log) map[int]api.Entry {
	at := map[int]api.Entry{}
	for i, e := range l.L {
		at[l.Base.Index+1+i] = e
	}
	return at
}

func plainLast(l api.Log) api.Spot {
	if !plainMayBe(l) {
		return api.Spot{}
	}
	if len(l.L) == 0 {
		return l.Base
	}
	return spot(l.Base.Index+len(l.L), l.L[len(l.L)-1].Term)
}

func plainTermAt(l api.Log, index int) (int, bool) {
	if !plainMayBe(l) {
		return 0, false
	}
	if index == l.Base.Index {
		return l.Base.Term, true
	}
	e, ok := plainAt(l)[index]
	return e.Term, ok
}

func plainFrom(l api.Log, index, most int) []api.Entry {
	var from []api.Entry
	at := plainAt(l)
	for ; plainMayBe(l) && len(from) < most; index++ {
		e, ok := at[index]
		if !ok {
			break
		}
		from = append(from, e)
	}
	return from
}

func plainAdd(l api.Log, e api.Entry) (api.Log, api.Errno) {
	if !plainMayBe(l) || !plainIsEntry(e) || e.Term < plainLast(l).Term {
		return api.Log{}, 80
	}
	if len(l.L) == 400 || plainLast(l).Index == 1000000 {
		return api.Log{}, 2
	}
	l.L = append(slices.Clone(l.L), e)
	return l, 0
}

func plainAccept(l api.Log, prev api.Spot, es []api.Entry, commit int) (api.Log, int, bool, api.Errno) {
	if !plainMayBe(l) {
		return api.Log{}, 0, false, 80
	}
	if !plainIsMark(prev) || commit < 0 || commit > 1000000 || !plainAreEntries(es) || len(es) > 0 && es[0].Term < prev.Term {
		return api.Log{}, 0, false, 1
	}
	if prev.Index >= l.Base.Index {
		if there, ok := plainTermAt(l, prev.Index); !ok || there != prev.Term {
			return l, 0, false, 0
		}
	}
	is := api.Log{Base: l.Base, Commit: l.Commit}
	is.L = plainPut(l, prev, es)
	for i := range l.Commit - l.Base.Index {
		if i >= len(is.L) || is.L[i].Term != l.L[i].Term { // an entry that is committed went
			return api.Log{}, 0, false, 80
		}
	}
	if !plainAreEntries(is.L) || len(is.L) > 0 && is.L[0].Term < is.Base.Term {
		return api.Log{}, 0, false, 80
	}
	if len(is.L) > 400 || is.Base.Index+len(is.L) > 1000000 {
		return api.Log{}, 0, false, 2
	}
	end := prev.Index + len(es)
	if smaller := min(commit, end); smaller > is.Commit {
		is.Commit = smaller
	}
	return is, max(end, l.Base.Index), true, 0
}

// plainPut goes on one by one, without leaving the loop.
func plainPut(l api.Log, prev api.Spot, es []api.Entry) []api.Entry {
	at := plainAt(l)
	last := l.Base.Index + len(l.L)
	putting := false
	for i, e := range es {
		index := prev.Index + 1 + i
		if index <= l.Base.Index {
			continue
		}
		there, ok := at[index]
		if !putting && ok && there.Term == e.Term {
			continue
		}
		if !putting {
			for gone := index; gone <= last; gone++ {
				delete(at, gone)
			}
			putting = true
		}
		at[index] = e
	}
	var list []api.Entry
	for index := l.Base.Index + 1; len(list) < len(at); index++ {
		list = append(list, at[index])
	}
	return list
}

func plainAdvance(l api.Log, of int, match []int) (api.Log, api.Errno) {
	if !plainMayBe(l) {
		return api.Log{}, 80
	}
	if of < 1 || of > 1000000 || len(match) < 1 || len(match) > 7 {
		return api.Log{}, 1
	}
	m := -1
	for _, a := range match {
		if a < 0 {
			return api.Log{}, 1
		}
		notBelow := 0
		for _, b := range match {
			if b >= a {
				notBelow++
			}
		}
		if notBelow > len(match)-notBelow && a > m {
			m = a
		}
	}
	if there, ok := plainTermAt(l, m); m > l.Commit && ok && there == of {
		l.Commit = m
	}
	return l, 0
}

// Each call held against the plain one. What is handed in has spare room, and is looked at behind the call.

var mark = api.Entry{Term: -7, Text: "spare"}

func lent(l []api.Entry) []api.Entry {
	whole := append(slices.Clone(l), mark, mark, mark)
	return whole[:len(l)]
}

// stayed tells whether a list that was lent is what it was, its spare room too.
func stayed(l, was []api.Entry) bool {
	whole := l[:len(l)+3]
	return slices.Equal(l, was) && !slices.ContainsFunc(whole[len(l):], func(e api.Entry) bool { return e != mark })
}

// spoil writes over an answer, its spare room too.
func spoil(l []api.Entry) {
	whole := l[:cap(l)]
	for i := range whole {
		whole[i] = api.Entry{Term: -9, Text: "spoilt"}
	}
}

func sharesTexts(a, b []api.Entry) bool {
	var from []*byte
	for _, e := range a {
		if e.Text != "" {
			from = append(from, unsafe.StringData(e.Text))
		}
	}
	return slices.ContainsFunc(b, func(e api.Entry) bool {
		return e.Text != "" && slices.Contains(from, unsafe.StringData(e.Text))
	})
}

func fresh(t *testing.T, promise string, answer, in, was []api.Entry) {
	t.Helper()
	if sharesTexts(answer, in) {
		t.Errorf("%s, R5: a text of the answer is one that was handed in", promise)
	}
	if !stayed(in, was) {
		t.Errorf("%s, R5: what was handed in is changed: %v, was %v", promise, in, was)
	}
	kept := slices.Clone(answer)
	spoil(answer)
	if !stayed(in, was) {
		t.Errorf("%s, R5: the answer shares memory with what was handed in: %v", promise, was)
	}
	copy(answer, kept)
}

func lentLog(l api.Log) api.Log {
	l.L = lent(l.L)
	return l
}

func checkAsked(t *testing.T, l api.Log, index, most int) {
	t.Helper()
	in := lentLog(l)
	wantE := api.OK
	if !plainMayBe(l) {
		wantE = api.ErrEntriesForm
	}
	if e := entries.Check(in); e != wantE {
		t.Errorf("P8.1: Check(%v) = %d, want %d", l, e, wantE)
	}
	if is, want := entries.Last(in), plainLast(l); is != want {
		t.Errorf("P8.1: Last(%v) = %v, want %v", l, is, want)
	}
	is, ok := entries.TermAt(in, index)
	if want, wantOk := plainTermAt(l, index); is != want || ok != wantOk {
		t.Errorf("P8.1: TermAt(%v, %d) = %d, %v, want %d, %v", l, index, is, ok, want, wantOk)
	}
	from := entries.From(in, index, most)
	if want := plainFrom(l, index, most); !slices.Equal(from, want) {
		t.Errorf("P8.1: From(%v, %d, %d) = %v, want %v", l, index, most, from, want)
	}
	fresh(t, "P8.1", from, in.L, l.L)
}

func checkAdd(t *testing.T, l api.Log, e api.Entry) {
	t.Helper()
	in := lentLog(l)
	is, errno := entries.Add(in, e)
	if want, wantE := plainAdd(l, e); !same(is, want) || errno != wantE {
		t.Errorf("P8.2: Add(%v, %v) = %v, %d, want %v, %d", l, e, is, errno, want, wantE)
	}
	if sharesTexts(is.L, []api.Entry{e}) {
		t.Errorf("P8.2, R5: the text of %v is one that was handed in", e)
	}
	fresh(t, "P8.2", is.L, in.L, l.L)
}

func checkAccept(t *testing.T, l api.Log, prev api.Spot, es []api.Entry, commit int) (bool, api.Errno) {
	t.Helper()
	in, inEs := lentLog(l), lent(es)
	is, match, ok, errno := entries.Accept(in, prev, inEs, commit)
	want, wantMatch, wantOk, wantE := plainAccept(l, prev, es, commit)
	if !same(is, want) || match != wantMatch || ok != wantOk || errno != wantE {
		t.Errorf("P8.3: Accept(%v, %v, %v, %d) = %v, %d, %v, %d, want %v, %d, %v, %d", l, prev, es, commit, is, match, ok, errno, want, wantMatch, wantOk, wantE)
	}
	if errno == api.OK && !plainMayBe(is) {
		t.Errorf("P8.3: Accept(%v, %v, %v, %d) = %v: that may not be", l, prev, es, commit, is)
	}
	fresh(t, "P8.3", is.L, in.L, l.L)
	fresh(t, "P8.3", is.L, inEs, es)
	return ok, errno
}

func checkAdvance(t *testing.T, l api.Log, of int, match []int) {
	t.Helper()
	in, inMatch := lentLog(l), slices.Clone(match)
	is, errno := entries.Advance(in, of, inMatch)
	if want, wantE := plainAdvance(l, of, match); !same(is, want) || errno != wantE {
		t.Errorf("P8.4: Advance(%v, %d, %v) = %v, %d, want %v, %d", l, of, match, is, errno, want, wantE)
	}
	if !slices.Equal(inMatch, match) {
		t.Errorf("P8.4, R5: %v was handed in, it is %v now", match, inMatch)
	}
	fresh(t, "P8.4", is.L, in.L, l.L)
}

// Some logs: those that may be, and others.

func long(n, of int) []api.Entry {
	return slices.Repeat([]api.Entry{command(of, "x")}, n)
}

func goodLogs() []api.Log {
	text := strings.Repeat("z", 4000)
	return []api.Log{
		{},
		{L: ofTerms(1, 1, 2)},
		{L: ofTerms(1, 1, 2), Commit: 2},
		{L: []api.Entry{start(1), command(1, ""), command(1, text), start(3), start(1000000)}, Commit: 5},
		{Base: spot(4, 2), Commit: 4},
		{Base: spot(4, 2), L: ofTerms(2, 2, 3, 5), Commit: 6},
		{Base: spot(4, 2), L: ofTerms(3), Commit: 5},
		{Base: spot(1000000, 1000000), Commit: 1000000},
		{Base: spot(999998, 7), L: ofTerms(7, 8), Commit: 999999},
		{Base: spot(999999, 7), L: ofTerms(7), Commit: 999999},
		{Base: spot(999998, 7), L: ofTerms(7), Commit: 999999},
		{L: long(400, 1), Commit: 400},
		{L: long(399, 3)},
		{Base: spot(999600, 1), L: long(400, 1), Commit: 999600},
		{Base: spot(1, 1000000), L: ofTerms(1000000), Commit: 1},
	}
}

func wrongLogs() []api.Log {
	l := []api.Log{
		{Base: spot(1, 0), Commit: 1},
		{Base: spot(0, 1)},
		{L: ofTerms(2, 1)},
		{L: ofTerms(1, 2, 2, 1)},
		{Base: spot(4, 2), L: ofTerms(1), Commit: 4},
		{Base: spot(4, 2), L: ofTerms(1, 2), Commit: 4},
		{Base: spot(4, 2), L: ofTerms(2), Commit: 3},
		{Base: spot(4, 2), L: ofTerms(2), Commit: 0},
		{Base: spot(4, 2), L: ofTerms(2), Commit: 6},
		{L: ofTerms(1, 1), Commit: 3},
		{L: ofTerms(1, 1), Commit: -1},
		{Commit: 1},
		{L: long(401, 1)},
		{L: long(401, 1), Commit: 400},
		{Base: spot(1000000, 1), L: ofTerms(1), Commit: 1000000},
		{Base: spot(999601, 1), L: long(400, 1), Commit: 999601},
		{Base: spot(1000000, 1), Commit: 1000001},
	}
	for _, e := range wrongEntries() {
		l = append(l, api.Log{L: []api.Entry{e}}, api.Log{L: []api.Entry{start(1), e, command(1000000, "")}})
	}
	for _, n := range wrongNumbers {
		l = append(l, api.Log{Base: spot(n, 1), Commit: n}, api.Log{Base: spot(1, n), Commit: 1}, api.Log{Base: spot(n, n), Commit: n})
		l = append(l, api.Log{L: ofTerms(1, 2), Commit: n}, api.Log{Base: spot(n, 1), L: ofTerms(1), Commit: n + 1})
	}
	return l
}

func wrongEntries() []api.Entry {
	l := []api.Entry{
		{}, start(0), command(0, ""), command(0, "x"), {Term: 1}, {Term: 1, Kind: 3}, {Term: 1, Kind: -1}, {Term: 1, Kind: 3, Text: "x"},
		{Term: 1, Kind: api.EntryStart, Text: "x"}, {Term: 1, Kind: api.EntryStart, Text: "\x00"}, command(1, strings.Repeat("z", 4001)),
		{Term: 1, Kind: math.MinInt}, {Term: 1, Kind: math.MaxInt},
	}
	for _, n := range wrongNumbers {
		l = append(l, start(n), command(n, "x"))
	}
	return l
}

func logs() []api.Log { return append(goodLogs(), wrongLogs()...) }

func TestSomeLogsMayBe(t *testing.T) {
	for i, l := range goodLogs() {
		if e := entries.Check(l); e != api.OK {
			t.Errorf("P8.1: log %d: %d", i, e)
		}
	}
	for i, l := range wrongLogs() {
		if e := entries.Check(l); e != api.ErrEntriesForm {
			t.Errorf("P8.1: wrong log %d: %d", i, e)
		}
	}
}

func TestAsked(t *testing.T) {
	for _, l := range logs() {
		near := []int{0, 1, 2, 3, 4, l.Base.Index - 1, l.Base.Index, l.Base.Index + 1, l.Base.Index + 2, l.Base.Index + len(l.L) - 1, l.Base.Index + len(l.L), l.Base.Index + len(l.L) + 1}
		for _, index := range append(near, wrongNumbers...) {
			for _, most := range append([]int{0, 1, 2, 3, 399, 400, 401}, wrongNumbers...) {
				checkAsked(t, l, index, most)
			}
		}
	}
}

func TestAdd(t *testing.T) {
	for _, l := range logs() {
		last := plainLast(l).Term
		for _, e := range append([]api.Entry{start(1), command(2, "y"), command(last, "y"), command(last-1, "y"), start(last + 1), command(1000000, strings.Repeat("y", 4000))}, wrongEntries()...) {
			checkAdd(t, l, e)
		}
	}
}

func TestAddInOrder(t *testing.T) {
	full := api.Log{L: long(400, 3)}
	high := api.Log{Base: spot(1000000, 3), Commit: 1000000}
	for _, l := range []api.Log{full, high} {
		if _, e := entries.Add(l, command(2, "x")); e != api.ErrEntriesForm {
			t.Errorf("P8.2, R2: %d", e)
		}
		if _, e := entries.Add(l, command(3, "x")); e != api.ErrLong {
			t.Errorf("P8.2: %d", e)
		}
	}
}

func TestAccept(t *testing.T) {
	some := [][]api.Entry{nil, ofTerms(1), ofTerms(2), ofTerms(1, 1), ofTerms(1, 1, 2), ofTerms(1, 2), ofTerms(1, 3, 3), ofTerms(2, 2, 3, 5), ofTerms(2, 2, 3, 5, 6), ofTerms(2, 2, 2), ofTerms(5), ofTerms(7, 8), ofTerms(1000000), {start(1), command(2, "other")}, ofTerms(2, 1), long(398, 1), long(400, 1), long(401, 1), long(401, 3), long(404, 1), long(405, 1), long(900, 1)}
	for _, l := range logs() {
		prevs := []api.Spot{{}, spot(1, 1), spot(2, 1), spot(2, 2), spot(3, 1), spot(3, 2), spot(4, 1), spot(4, 2), spot(5, 2), spot(5, 3), spot(400, 1), spot(401, 1), spot(999998, 7), spot(999999, 7), spot(1000000, 8), plainLast(l), l.Base}
		for _, prev := range prevs {
			for _, es := range some {
				for _, commit := range []int{0, 2, 5, 1000000} {
					checkAccept(t, l, prev, es, commit)
				}
			}
		}
	}
}

func TestAcceptRefuses(t *testing.T) {
	for _, l := range []api.Log{{L: ofTerms(1, 1, 2), Commit: 1}, {Base: spot(4, 2), L: ofTerms(2, 3), Commit: 5}, {L: ofTerms(2, 1)}} {
		for _, n := range append([]int{0, 1}, wrongNumbers...) {
			for _, other := range append([]int{0, 1}, wrongNumbers...) {
				checkAccept(t, l, spot(n, other), ofTerms(1), 0)
			}
			checkAccept(t, l, spot(1, 1), ofTerms(1), n)
			checkAccept(t, l, spot(3, 9), nil, n)
		}
		for _, e := range wrongEntries() {
			checkAccept(t, l, spot(1, 1), []api.Entry{e}, 0)
			checkAccept(t, l, spot(1, 1), []api.Entry{start(1), e}, 0)
			checkAccept(t, l, spot(9, 9), []api.Entry{e, command(1000000, "x")}, 0)
		}
		checkAccept(t, l, spot(2, 2), ofTerms(1), 0)
		checkAccept(t, l, spot(9, 2), ofTerms(2, 3, 2), 0)
	}
}

// TestAcceptInOrder: where several errors apply, the one that the promise names first.
func TestAcceptInOrder(t *testing.T) {
	long401 := long(401, 1)
	cases := []struct {
		name   string
		l      api.Log
		prev   api.Spot
		es     []api.Entry
		commit int
		want   api.Errno
	}{
		{"a wrong log, a wrong mark", api.Log{L: ofTerms(2, 1)}, spot(1, 0), nil, -1, api.ErrEntriesForm},
		{"a wrong mark, though it is not there", api.Log{}, spot(9, 0), nil, 0, api.ErrArg},
		{"wrong entries, though the mark is not there", api.Log{}, spot(9, 9), ofTerms(8), 0, api.ErrArg},
		{"too long, but the mark is not there", api.Log{}, spot(9, 1), long401, 0, api.OK},
		{"committed, and too long", api.Log{L: ofTerms(2, 2), Commit: 1}, api.Spot{}, long(401, 3), 0, api.ErrEntriesForm},
		{"less than the base, and too long", api.Log{Base: spot(4, 2), Commit: 4}, spot(3, 1), long(402, 1), 0, api.ErrEntriesForm},
		{"too many", api.Log{}, api.Spot{}, long401, 0, api.ErrLong},
		{"an index too great", api.Log{Base: spot(999999, 1), Commit: 999999}, spot(999999, 1), ofTerms(1, 1), 0, api.ErrLong},
		{"an index too great, behind what is passed over", api.Log{Base: spot(1000000, 1), Commit: 1000000}, spot(999999, 1), ofTerms(1, 1), 0, api.ErrLong},
		{"many, but passed over", api.Log{Base: spot(500, 1), L: long(3, 1), Commit: 500}, spot(1, 1), long(503, 1), 0, api.OK},
	}
	for _, c := range cases {
		if _, e := checkAccept(t, c.l, c.prev, c.es, c.commit); e != c.want {
			t.Errorf("P8.3, R2: %s: %d, want %d", c.name, e, c.want)
		}
	}
}

// TestAcceptBySameTerm: the term alone tells whether an entry is there.
func TestAcceptBySameTerm(t *testing.T) {
	l := api.Log{L: []api.Entry{start(1), command(1, "a"), command(2, "b")}}
	m, match, ok, e := entries.Accept(l, api.Spot{}, []api.Entry{command(1, "other"), start(1)}, 1)
	if want := (api.Log{L: l.L, Commit: 1}); !same(m, want) || match != 2 || !ok || e != api.OK {
		t.Errorf("P8.3: %v, %d, %v, %d", m, match, ok, e)
	}
	m, match, ok, e = entries.Accept(l, api.Spot{}, []api.Entry{command(1, "other"), command(2, "c"), command(2, "d")}, 0)
	if want := (api.Log{L: []api.Entry{start(1), command(2, "c"), command(2, "d")}}); !same(m, want) || match != 3 || !ok || e != api.OK {
		t.Errorf("P8.3: %v, %d, %v, %d", m, match, ok, e)
	}
}

func TestAdvance(t *testing.T) {
	matches := [][]int{nil, {}, {0}, {1}, {2}, {3}, {2, 3}, {3, 2}, {3, 1, 2}, {3, 3, 0, 0}, {3, 3, 3, 0}, {2, 2, 3, 0, 1}, {6, 7, 5, 8, 9}, {1, 2, 3, 4, 5, 6, 7}, {7, 7, 7, 5, 5, 5}, {1, 1, 1, 1, 1, 1, 1, 1}, {400, 400, 0}, {1000000, 999999}, {math.MaxInt, math.MaxInt, 0}, {-1}, {3, 3, -1}, {3, 3, math.MinInt}, slices.Repeat([]int{3}, 100)}
	for _, l := range logs() {
		last := l.Base.Index + len(l.L)
		for _, match := range append([][]int{{last}, {last + 1}, {l.Commit}, {l.Commit + 1}, {l.Base.Index, l.Base.Index, last}}, matches...) {
			for _, of := range append([]int{0, 1, 2, 3, 5, 7, 8, 1000000}, wrongNumbers...) {
				checkAdvance(t, l, of, match)
			}
		}
	}
}

// TestMajority: of n nodes, most have it.
func TestMajority(t *testing.T) {
	for n, needed := range map[int]int{1: 1, 2: 2, 3: 2, 4: 3, 5: 3, 6: 4, 7: 4} {
		for have := 0; have <= n; have++ {
			match := slices.Repeat([]int{0}, n)
			for i := range have {
				match[n-1-i] = 1
			}
			m, e := entries.Advance(api.Log{L: ofTerms(4)}, 4, match)
			if e != api.OK || m.Commit == 1 != (have >= needed) {
				t.Errorf("P8.4: %v: Commit %d, %d", match, m.Commit, e)
			}
		}
	}
}

func TestExamples(t *testing.T) {
	l := api.Log{L: ofTerms(1, 1, 2)}
	m, match, ok, e := entries.Accept(l, spot(2, 1), ofTerms(3), 0)
	if !same(m, api.Log{L: ofTerms(1, 1, 3)}) || match != 3 || !ok || e != api.OK {
		t.Errorf("example 1: %v, %d, %v, %d", m, match, ok, e)
	}
	m, match, ok, e = entries.Accept(l, spot(2, 2), ofTerms(3), 0)
	if !same(m, l) || match != 0 || ok || e != api.OK {
		t.Errorf("example 1: %v, %d, %v, %d", m, match, ok, e)
	}
	m, match, ok, e = entries.Accept(l, spot(1, 1), ofTerms(1), 0)
	if !same(m, l) || match != 2 || !ok || e != api.OK {
		t.Errorf("example 1: %v, %d, %v, %d", m, match, ok, e)
	}
	for of, commit := range map[int]int{1: 0, 2: 2, 3: 0} {
		m, e := entries.Advance(api.Log{L: ofTerms(1, 2, 2)}, of, []int{3, 1, 2})
		if m.Commit != commit || e != api.OK {
			t.Errorf("example 2: term %d: %v, %d", of, m, e)
		}
	}
}

// Any logs, small ones and such as are near an edge.

func rising(r *rand.Rand, n, from int) []api.Entry {
	var l []api.Entry
	for range n {
		if r.Intn(3) == 0 {
			from++
		}
		if from > 0 && r.Intn(4) == 0 {
			l = append(l, start(from))
		} else {
			l = append(l, command(max(from, 1), string(rune('a'+r.Intn(3)))))
		}
	}
	return l
}

func anyLog(r *rand.Rand) api.Log {
	var l api.Log
	switch r.Intn(8) {
	case 0:
		l.Base = spot(1000000-r.Intn(4), 1+r.Intn(3))
	case 1, 2, 3:
		l.Base = spot(1+r.Intn(5), 1+r.Intn(3))
	}
	n := r.Intn(7)
	if r.Intn(20) == 0 {
		n = 396 + r.Intn(6)
	}
	l.L = rising(r, n, l.Base.Term)
	l.Commit = l.Base.Index + r.Intn(len(l.L)+1)
	switch r.Intn(30) {
	case 0:
		l.Commit += 1 + r.Intn(3)
	case 1:
		l.Commit -= 1 + r.Intn(9)
	case 2:
		l.Base.Term = r.Intn(5)
	}
	return l
}

// anyEntries are mostly such as a leader might send to a node with that log.
func anyEntries(r *rand.Rand, l api.Log) (api.Spot, []api.Entry) {
	prev := spot(max(0, l.Base.Index+r.Intn(len(l.L)+5)-2), r.Intn(5))
	if of, ok := plainTermAt(l, prev.Index); ok && r.Intn(6) > 0 {
		prev.Term = of
	}
	if prev.Index == 0 && r.Intn(20) > 0 {
		prev.Term = 0
	}
	es := plainFrom(l, prev.Index+1, r.Intn(8))
	if r.Intn(4) == 0 {
		es = rising(r, r.Intn(6), max(1, prev.Term-r.Intn(2)))
	} else if len(es) > 0 && r.Intn(3) == 0 {
		es = es[:r.Intn(len(es))]
	}
	from := prev.Term
	if len(es) > 0 {
		from = es[len(es)-1].Term
	}
	if r.Intn(3) > 0 {
		es = append(es, rising(r, r.Intn(5), from)...)
	}
	return prev, es
}

func TestAnyLogs(t *testing.T) {
	r := rand.New(rand.NewSource(4))
	accepted, refused := 0, map[api.Errno]int{}
	for range 40000 {
		l := anyLog(r)
		checkAsked(t, l, l.Base.Index+r.Intn(9)-1, r.Intn(9)-1)
		checkAdd(t, l, command(r.Intn(6), "y"))
		prev, es := anyEntries(r, l)
		ok, e := checkAccept(t, l, prev, es, max(0, l.Base.Index+r.Intn(12)-2))
		if ok {
			accepted++
		}
		refused[e]++
		match := make([]int, 1+r.Intn(7))
		for i := range match {
			match[i] = max(0, l.Base.Index+r.Intn(9)-1)
		}
		checkAdvance(t, l, 1+r.Intn(5), match)
		if t.Failed() {
			return
		}
	}
	if accepted < 5000 || refused[api.ErrEntriesForm] < 500 || refused[api.ErrArg] < 500 || refused[api.ErrLong] < 100 {
		t.Errorf("accepted %d, refused %v", accepted, refused)
	}
}

// A group of logs: leaders that most have chosen put entries, and the others accept parts of them.

type member struct {
	term int
	log  api.Log
}

type group struct {
	t       *testing.T
	r       *rand.Rand
	members []member
	leads   map[int]int // by terms
	had     []api.Entry // all that was ever committed, by indices from 1 on
}

func (g *group) lead() {
	who := g.r.Intn(len(g.members))
	last := entries.Last(g.members[who].log)
	next := 0
	for _, m := range g.members {
		next = max(next, m.term+1)
	}
	var voters []int
	for i, m := range g.members {
		its := entries.Last(m.log)
		if i == who || its.Term < last.Term || its.Term == last.Term && its.Index <= last.Index {
			voters = append(voters, i)
		}
	}
	g.r.Shuffle(len(voters), func(i, j int) { voters[i], voters[j] = voters[j], voters[i] })
	if 2*len(voters) <= len(g.members) {
		return
	}
	for _, i := range append(voters[:len(g.members)/2+1], who) {
		g.members[i].term = next
	}
	g.leads[next] = who
	g.put(who, start(next))
}

// leadsNow tells whether a member leads in the term that it is in.
func (g *group) leadsNow(who int) bool {
	leader, ok := g.leads[g.members[who].term]
	return ok && leader == who
}

func (g *group) put(who int, e api.Entry) {
	m := &g.members[who]
	if !g.leadsNow(who) || e.Term != m.term {
		return
	}
	l, errno := entries.Add(m.log, e)
	if errno != api.OK && errno != api.ErrLong {
		g.t.Fatalf("P8.2: Add(%v, %v): %d", m.log, e, errno)
	}
	if errno == api.OK {
		g.turn(who, l)
	}
}

// send lets a member accept a part of a leader's log.
func (g *group) send(who, to int) {
	leader, m := g.members[who], &g.members[to]
	if !g.leadsNow(who) || leader.term < m.term || who == to {
		return
	}
	m.term = leader.term
	index := g.r.Intn(entries.Last(leader.log).Index + 1)
	of, _ := entries.TermAt(leader.log, index)
	es := entries.From(leader.log, index+1, g.r.Intn(6))
	l, end, ok, errno := entries.Accept(m.log, spot(index, of), es, leader.log.Commit)
	if errno != api.OK {
		g.t.Fatalf("P8.5: Accept(%v, %d %d, %v): %d", m.log, index, of, es, errno)
	}
	if ok && (end != index+len(es) || !slices.Equal(l.L[:end], leader.log.L[:end])) {
		g.t.Fatalf("P8.5: accepted up to %d: %v, the other one is %v", end, l, leader.log)
	}
	g.turn(to, l)
}

// advance tells a leader how far the others' logs are what its own is.
func (g *group) advance(who int) {
	leader := g.members[who]
	if !g.leadsNow(who) {
		return
	}
	match := make([]int, len(g.members))
	for i, m := range g.members {
		for m.term == leader.term && match[i] < min(len(m.log.L), len(leader.log.L)) && m.log.L[match[i]] == leader.log.L[match[i]] {
			match[i]++
		}
	}
	l, errno := entries.Advance(leader.log, leader.term, match)
	if errno != api.OK {
		g.t.Fatalf("P8.4: %d", errno)
	}
	g.turn(who, l)
}

func (g *group) turn(who int, l api.Log) {
	was := g.members[who].log
	if l.Commit < was.Commit {
		g.t.Fatalf("P8.5: Commit falls from %d to %d", was.Commit, l.Commit)
	}
	if e := entries.Check(l); e != api.OK {
		g.t.Fatalf("P8.5: %v: %d", l, e)
	}
	for i, e := range l.L[:l.Commit] {
		if i == len(g.had) {
			g.had = append(g.had, e)
		}
		if g.had[i] != e {
			g.t.Fatalf("P8.5: %v was committed as the entry %d, and now %v", g.had[i], i+1, e)
		}
	}
	g.members[who].log = l
}

func TestLogsOfAGroup(t *testing.T) {
	committed, led := 0, 0
	for seed := range 80 {
		r := rand.New(rand.NewSource(int64(seed)))
		g := &group{t: t, r: r, members: make([]member, 1+seed%7), leads: map[int]int{}}
		for step := range 800 {
			who := r.Intn(len(g.members))
			switch n := r.Intn(40); {
			case n == 0 || step == 0:
				g.lead()
			case n < 8:
				g.put(who, command(max(1, g.members[who].term), string(rune('a'+r.Intn(26)))))
			case n < 14:
				g.advance(who)
			default:
				g.send(who, r.Intn(len(g.members)))
			}
		}
		committed += len(g.had)
		led += len(g.leads)
	}
	if committed < 1000 || led < 400 {
		t.Errorf("P8.5: only %d entries were committed, in %d terms", committed, led)
	}
}
