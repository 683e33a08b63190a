package snap_test

import (
	"math"
	"math/rand"
	"slices"
	"strconv"
	"strings"
	"testing"
	"unsafe"

	"rialto/api"
	"rialto/entries"
	"rialto/snap"
)

// wrongNumbers are below and above everything that an index or a term may be.
var wrongNumbers = []int{math.MinInt, math.MinInt + 1, math.MinInt32, -1000000, -1, 1000001, math.MaxInt32, math.MaxInt - 1, math.MaxInt}

func spot(index, of int) api.Spot { return api.Spot{Index: index, Term: of} }

// ofTerms are entries with texts unlike one another.
func ofTerms(terms ...int) []api.Entry {
	var l []api.Entry
	for i, of := range terms {
		l = append(l, api.Entry{Term: of, Kind: api.EntryCommand, Text: "text " + strconv.Itoa(i)})
	}
	return l
}

func same(a, b api.Log) bool {
	return a.Base == b.Base && a.Commit == b.Commit && slices.Equal(a.L, b.L)
}

// The promises by the words: plain.

func plainIsMark(s api.Spot) bool {
	if s.Index == 0 || s.Term == 0 {
		return s.Index == 0 && s.Term == 0
	}
	return 1 <= s.Index && s.Index <= 1000000 && 1 <= s.Term && s.Term <= 1000000
}

func plainMayBe(l api.Log) bool {
	if !plainIsMark(l.Base) || len(l.L) > 400 {
		return false
	}
	of := l.Base.Term
	for _, e := range l.L {
		text := e.Kind == 1 && e.Text == "" || e.Kind == 2 && len(e.Text) <= 4000
		if e.Term < 1 || e.Term > 1000000 || e.Term < of || !text {
			return false
		}
		of = e.Term
	}
	last := l.Base.Index + len(l.L)
	return last <= 1000000 && l.Base.Index <= l.Commit && l.Commit <= last
}

// plainBehind is what stands behind an index, taken one by one.
func plainBehind(l api.Log, index int) []api.Entry {
	var behind []api.Entry
	for i, e := range l.L {
		if l.Base.Index+1+i > index {
			behind = append(behind, e)
		}
	}
	return behind
}

func plainCompact(l api.Log, index int) (api.Log, api.Errno) {
	if !plainMayBe(l) {
		return api.Log{}, 90
	}
	if index <= l.Base.Index || index > l.Commit {
		return api.Log{}, 91
	}
	of := l.L[index-l.Base.Index-1].Term
	return api.Log{Base: spot(index, of), L: plainBehind(l, index), Commit: l.Commit}, 0
}

func plainInstall(l api.Log, m api.Spot) (api.Log, bool, api.Errno) {
	if !plainMayBe(l) {
		return api.Log{}, false, 90
	}
	if !plainIsMark(m) || m.Index == 0 {
		return api.Log{}, false, 1
	}
	if m.Index <= l.Commit {
		return l, false, 0
	}
	is := api.Log{Base: m, Commit: m.Index}
	for i, e := range l.L {
		if l.Base.Index+1+i == m.Index && e.Term == m.Term {
			is.L = plainBehind(l, m.Index)
		}
	}
	return is, true, 0
}

// Each call held against the plain one. What is handed in has spare room, and is looked at behind the call.

var mark = api.Entry{Term: -7, Text: "spare"}

func lent(l api.Log) api.Log {
	l.L = append(slices.Clone(l.L), mark, mark, mark)[:len(l.L)]
	return l
}

func stayed(in, was api.Log) bool {
	whole := in.L[:len(in.L)+3]
	return same(in, was) && !slices.ContainsFunc(whole[len(in.L):], func(e api.Entry) bool { return e != mark })
}

func sharesTexts(a, b []api.Entry) bool {
	var from []*byte
	for _, e := range a {
		if e.Text != "" {
			from = append(from, unsafe.StringData(e.Text))
		}
	}
	return slices.ContainsFunc(b, func(e api.Entry) bool {
		return e.Text != "" && slices.Contains(from, unsafe.StringData(e.Text))
	})
}

// fresh tells whether what was handed in stayed, and whether the answer, its spare room too, is other memory.
func fresh(t *testing.T, promise string, answer, in, was api.Log) {
	t.Helper()
	if sharesTexts(answer.L, in.L) {
		t.Errorf("%s, R5: a text of the answer is one that was handed in: %v", promise, was)
	}
	if !stayed(in, was) {
		t.Errorf("%s, R5: what was handed in is changed: %v, was %v", promise, in, was)
	}
	kept := slices.Clone(answer.L)
	whole := answer.L[:cap(answer.L)]
	for i := range whole {
		whole[i] = api.Entry{Term: -9, Text: "spoilt"}
	}
	if !stayed(in, was) {
		t.Errorf("%s, R5: the answer shares memory with what was handed in: %v", promise, was)
	}
	copy(answer.L, kept)
}

func checkCompact(t *testing.T, l api.Log, index int) (api.Log, api.Errno) {
	t.Helper()
	in := lent(l)
	is, errno := snap.Compact(in, index)
	want, wantE := plainCompact(l, index)
	if !same(is, want) || errno != wantE {
		t.Errorf("P9.1: Compact(%v, %d) = %v, %d, want %v, %d", l, index, is, errno, want, wantE)
	}
	fresh(t, "P9.1", is, in, l)
	if errno == api.OK {
		checkTold(t, l, is, index)
	}
	return is, errno
}

func checkInstall(t *testing.T, l api.Log, m api.Spot) (api.Log, bool, api.Errno) {
	t.Helper()
	in := lent(l)
	is, ok, errno := snap.Install(in, m)
	want, wantOk, wantE := plainInstall(l, m)
	if !same(is, want) || ok != wantOk || errno != wantE {
		t.Errorf("P9.2: Install(%v, %v) = %v, %v, %d, want %v, %v, %d", l, m, is, ok, errno, want, wantOk, wantE)
	}
	fresh(t, "P9.2", is, in, l)
	if of, there := entries.TermAt(l, m.Index); errno == api.OK && (!ok || there && of == m.Term) {
		checkTold(t, l, is, is.Base.Index)
	}
	return is, ok, errno
}

// checkTold holds what is told of a log's indices, from its new base on, against what was told.
func checkTold(t *testing.T, was, is api.Log, from int) {
	t.Helper()
	if e := entries.Check(is); e != api.OK {
		t.Errorf("P9.3: of %v is left %v: that may not be: %d", was, is, e)
	}
	if entries.Last(is) != entries.Last(was) {
		t.Errorf("P9.3: of %v is left %v: the last mark turned", was, is)
	}
	for index := from; index <= from+len(is.L)+2; index += 1 + len(is.L)/20 {
		of, ok := entries.TermAt(is, index)
		wasOf, wasOk := entries.TermAt(was, index)
		if of != wasOf || ok != wasOk {
			t.Errorf("P9.3: of %v is left %v: index %d has %d, %v, had %d, %v", was, is, index, of, ok, wasOf, wasOk)
		}
		if index > from && !slices.Equal(entries.From(is, index, 400), entries.From(was, index, 400)) {
			t.Errorf("P9.3: of %v is left %v: from %d on it is another one", was, is, index)
		}
	}
}

// someLogs are logs that may be: of several bases, lengths and commits, at the edges too.
func someLogs() []api.Log {
	var all []api.Log
	for _, base := range []api.Spot{{}, spot(1, 1), spot(7, 2), spot(999997, 2), spot(1000000, 1)} {
		for _, terms := range [][]int{{}, {2}, {2, 2}, {2, 3, 3}, {2, 3, 5, 1000000}} {
			for commit := base.Index; commit <= base.Index+len(terms); commit++ {
				l := api.Log{Base: base, L: ofTerms(terms...), Commit: commit}
				if plainMayBe(l) {
					all = append(all, l)
				}
			}
		}
	}
	return all
}

// wrongLogs may not be, each for a reason of its own.
func wrongLogs() []api.Log {
	long := strings.Repeat("x", 4001)
	all := []api.Log{
		{Commit: 1}, {Commit: -1}, {Base: spot(1, 1)}, {Base: spot(1, 1), Commit: 2},
		{Base: spot(1, 0), Commit: 1}, {Base: spot(0, 1)}, {Base: spot(-1, 1), Commit: -1}, {Base: spot(1, -1), Commit: 1},
		{Base: spot(1000001, 1), Commit: 1000001}, {Base: spot(1, 1000001), Commit: 1},
		{L: ofTerms(2, 1), Commit: 1}, {L: ofTerms(0), Commit: 1}, {L: ofTerms(1000001), Commit: 1}, {L: ofTerms(-1), Commit: 1},
		{Base: spot(3, 3), L: ofTerms(2), Commit: 4}, {Base: spot(1000000, 1), L: ofTerms(1), Commit: 1000000},
		{L: make([]api.Entry, 1), Commit: 1}, {L: []api.Entry{{Term: 1, Kind: 3}}, Commit: 1}, {L: []api.Entry{{Term: 1, Kind: 1, Text: "x"}}, Commit: 1},
		{L: []api.Entry{{Term: 1, Kind: 2, Text: long}}, Commit: 1},
		{L: slices.Repeat(ofTerms(1), 401), Commit: 1},
	}
	for _, n := range wrongNumbers {
		all = append(all, api.Log{Base: spot(n, 1), Commit: n}, api.Log{Base: spot(1, n), Commit: 1}, api.Log{L: ofTerms(1, 1), Commit: n})
	}
	return all
}

func TestCompact(t *testing.T) {
	cut := 0
	for _, l := range append(someLogs(), wrongLogs()...) {
		indices := append([]int{0, 1, 2, 3, 1000000}, wrongNumbers...)
		for index := l.Base.Index - 2; index <= l.Base.Index+len(l.L)+2 && len(l.L) < 9; index++ {
			indices = append(indices, index)
		}
		for _, index := range indices {
			if _, e := checkCompact(t, l, index); e == api.OK {
				cut++
			}
		}
	}
	if cut < 50 {
		t.Errorf("only %d logs were cut", cut)
	}
}

func TestInstall(t *testing.T) {
	installed, kept := 0, 0
	for _, l := range append(someLogs(), wrongLogs()...) {
		indices := append([]int{0, 1, 999999, 1000000}, wrongNumbers...)
		for index := l.Base.Index - 2; index <= l.Base.Index+len(l.L)+2 && len(l.L) < 9; index++ {
			indices = append(indices, index)
		}
		for _, index := range indices {
			for _, of := range append([]int{0, 1, 2, 3, 4, 5, 1000000}, wrongNumbers...) {
				is, ok, _ := checkInstall(t, l, spot(index, of))
				if ok {
					installed++
				}
				if ok && len(is.L) > 0 {
					kept++
				}
				if ok && entries.Check(is) != api.OK {
					t.Errorf("P9.3: Install(%v, %d, %d) = %v: that may not be", l, index, of, is)
				}
			}
		}
	}
	if installed < 500 || kept < 20 {
		t.Errorf("only %d snapshots were installed, %d of them with entries behind", installed, kept)
	}
}

// TestTheLongestLog has as many entries as there may be, of the longest texts, up to the last index.
func TestTheLongestLog(t *testing.T) {
	long := api.Entry{Term: 1, Kind: api.EntryCommand, Text: strings.Repeat("x", 4000)}
	for _, base := range []api.Spot{{}, spot(999600, 1)} {
		l := api.Log{Base: base, L: slices.Repeat([]api.Entry{long}, 400), Commit: base.Index + 400}
		for _, behind := range []int{0, 1, 2, 399, 400, 401} {
			checkCompact(t, l, base.Index+behind)
			open := l
			open.Commit = base.Index
			checkInstall(t, open, spot(base.Index+behind, 1))
			checkInstall(t, open, spot(base.Index+behind, 2))
		}
	}
}

func TestErrorsInTheirOrder(t *testing.T) {
	if _, e := snap.Compact(api.Log{Commit: 1}, -1); e != api.ErrSnapForm {
		t.Errorf("R2: Compact = %d", e)
	}
	if _, ok, e := snap.Install(api.Log{Commit: 1}, spot(0, 5)); ok || e != api.ErrSnapForm {
		t.Errorf("R2: Install = %v, %d", ok, e)
	}
	if _, ok, e := snap.Install(api.Log{L: ofTerms(1), Commit: 1}, spot(1, 0)); ok || e != api.ErrArg { // not above Commit, but no mark
		t.Errorf("R2: Install = %v, %d", ok, e)
	}
}

func TestExamples(t *testing.T) {
	l := api.Log{L: ofTerms(1, 1, 2), Commit: 2}
	if is, e := snap.Compact(l, 2); e != api.OK || !same(is, api.Log{Base: spot(2, 1), L: l.L[2:], Commit: 2}) {
		t.Errorf("example 1: %v, %d", is, e)
	}
	if is, e := snap.Compact(l, 3); e != api.ErrSnapIndex || !same(is, api.Log{}) {
		t.Errorf("example 1: %v, %d", is, e)
	}
	if is, ok, e := snap.Install(l, spot(5, 2)); e != api.OK || !ok || !same(is, api.Log{Base: spot(5, 2), Commit: 5}) {
		t.Errorf("example 1: %v, %v, %d", is, ok, e)
	}
	if is, ok, e := snap.Install(l, spot(2, 1)); e != api.OK || ok || !same(is, l) {
		t.Errorf("example 1: %v, %v, %d", is, ok, e)
	}
}

// TestOneBehindTheOther lets a log grow, be cut and installed at random: each time it is what the plain calls say, and may be.
func TestOneBehindTheOther(t *testing.T) {
	r := rand.New(rand.NewSource(9))
	for range 300 {
		var l api.Log
		for range 60 {
			last := entries.Last(l)
			switch r.Intn(4) {
			case 0, 1:
				l, _ = entries.Add(l, api.Entry{Term: max(1, last.Term+r.Intn(4)/3), Kind: api.EntryCommand, Text: strconv.Itoa(r.Intn(100))})
				l.Commit += r.Intn(2) * r.Intn(l.Base.Index+len(l.L)-l.Commit+1)
			case 2:
				if is, e := checkCompact(t, l, l.Base.Index+r.Intn(4)); e == api.OK {
					l = is
				}
			default:
				if is, _, e := checkInstall(t, l, spot(l.Commit+r.Intn(4)-1, max(1, last.Term-r.Intn(2)))); e == api.OK && r.Intn(3) == 0 {
					l = is
				}
			}
			if e := entries.Check(l); e != api.OK || t.Failed() {
				t.Fatalf("P9.3: %v: %d", l, e)
			}
		}
	}
}
