package net_test

import (
	"encoding/binary"
	"hash/crc32"
	"math"
	"math/rand"
	"slices"
	"strings"
	"testing"
	"unsafe"

	"rialto/api"
	"rialto/net"
)

// framed puts a text into a frame by chapter 2's words.
func framed(text string) string {
	length := binary.BigEndian.AppendUint32(nil, uint32(len(text)))
	sum := crc32.ChecksumIEEE(append(slices.Clone(length), text...))
	return string(binary.BigEndian.AppendUint32(length, sum)) + text
}

// u writes numbers one behind the other, tx a text, by chapter 1's words.
func u(l ...uint64) string {
	var b []byte
	for _, n := range l {
		b = binary.AppendUvarint(b, n)
	}
	return string(b)
}

func tx(s string) string { return u(uint64(len(s))) + s }

func bit(ok bool) string {
	if ok {
		return "\x01"
	}
	return "\x00"
}

// formOf writes a message by chapter 5's words.
func formOf(m api.Msg) string {
	n := func(l ...int) string {
		s := ""
		for _, x := range l {
			s += u(uint64(x))
		}
		return s
	}
	s := n(m.Kind, m.From, m.To, m.Term)
	switch m.Kind {
	case 1:
		s += n(m.Prev.Index, m.Prev.Term)
	case 2:
		s += bit(m.Ok)
	case 3:
		s += n(m.Prev.Index, m.Prev.Term, m.Commit, len(m.Entries))
		for _, e := range m.Entries {
			s += n(e.Term, e.Kind) + tx(e.Text)
		}
	case 4:
		s += bit(m.Ok) + n(m.Match)
	case 5:
		s += n(m.Snap.Mark.Index, m.Snap.Mark.Term) + tx(m.Snap.Text)
	}
	return framed(s)
}

func same(a, b api.Msg) bool {
	return a.Kind == b.Kind && a.From == b.From && a.To == b.To && a.Term == b.Term && a.Prev == b.Prev && slices.Equal(a.Entries, b.Entries) && a.Commit == b.Commit && a.Ok == b.Ok && a.Match == b.Match && a.Snap == b.Snap
}

func isZero(m api.Msg) bool { return same(m, api.Msg{}) }

// isForm holds a message against its form, both ways.
func isForm(t *testing.T, m api.Msg) string {
	t.Helper()
	form := formOf(m)
	s, e := net.Encode(m)
	if s != form || e != api.OK {
		t.Fatalf("N1: Encode(%.200v) = %.100q, %d, want %.100q", m, s, e, form)
	}
	if back, e := net.Decode(s); !same(back, m) || e != api.OK {
		t.Fatalf("P5.1: Decode of the form of %.200v = %.200v, %d", m, back, e)
	}
	return s
}

func refusesMsg(t *testing.T, promise string, m api.Msg) {
	t.Helper()
	if s, e := net.Encode(m); s != "" || e != api.ErrNetForm {
		t.Errorf("%s: Encode(%.200v) = %.50q, %d, want %d", promise, m, s, e, api.ErrNetForm)
	}
}

func refusesText(t *testing.T, promise, s string) {
	t.Helper()
	if m, e := net.Decode(s); !isZero(m) || e != api.ErrNetForm {
		t.Errorf("%s: Decode(%.80q) = %.200v, %d, want %d", promise, s, m, e, api.ErrNetForm)
	}
}

func randomText(r *rand.Rand, size int) string {
	b := make([]byte, size)
	for i := range b {
		b[i] = byte(r.Intn(256))
	}
	return string(b)
}

// number is from low to 1000000, near the ends and near where a form grows by a byte more often than elsewhere.
func number(r *rand.Rand, low int) int {
	switch r.Intn(5) {
	case 0:
		return low
	case 1:
		return 1000000
	case 2:
		return []int{1, 127, 128, 16383, 16384, 999999}[r.Intn(6)]
	}
	return low + r.Intn(1000001-low)
}

func mark(r *rand.Rand) api.Spot {
	if r.Intn(4) == 0 {
		return api.Spot{}
	}
	return api.Spot{Index: number(r, 1), Term: number(r, 1)}
}

// size is that of a text, small mostly, the greatest now and then.
func size(r *rand.Rand, most int) int {
	if r.Intn(20) == 0 {
		return most - r.Intn(2)
	}
	return r.Intn(150)
}

func randomMsg(r *rand.Rand, kind int) api.Msg {
	nodes := r.Perm(7)
	m := api.Msg{Kind: kind, From: nodes[0] + 1, To: nodes[1] + 1, Term: number(r, 1)}
	switch kind {
	case api.MsgPoll:
		m.Prev = mark(r)
	case api.MsgGrant:
		m.Ok = r.Intn(2) == 0
	case api.MsgAppend:
		m.Prev, m.Commit = mark(r), number(r, 0)
		for range r.Intn(17) {
			m.Entries = append(m.Entries, api.Entry{Term: number(r, 1), Kind: 1 + r.Intn(2), Text: randomText(r, size(r, 4000))})
		}
	case api.MsgAppended:
		m.Ok, m.Match = r.Intn(2) == 0, number(r, 0)
	case api.MsgInstall:
		m.Snap = api.Snapshot{Mark: api.Spot{Index: number(r, 1), Term: number(r, 1)}, Text: randomText(r, size(r, 50000))}
	}
	return m
}

// someOf are one message of each kind, with all fields that it names.
func someOf() []api.Msg {
	return []api.Msg{
		{Kind: api.MsgPoll, From: 1, To: 7, Term: 5, Prev: api.Spot{Index: 4, Term: 3}},
		{Kind: api.MsgGrant, From: 2, To: 6, Term: 5, Ok: true},
		{Kind: api.MsgAppend, From: 3, To: 5, Term: 5, Prev: api.Spot{Index: 4, Term: 3}, Commit: 2, Entries: []api.Entry{{Term: 4, Kind: api.EntryStart}, {Term: 5, Kind: api.EntryCommand, Text: "do"}}},
		{Kind: api.MsgAppended, From: 4, To: 3, Term: 5, Ok: true, Match: 9},
		{Kind: api.MsgInstall, From: 7, To: 1, Term: 5, Snap: api.Snapshot{Mark: api.Spot{Index: 4, Term: 3}, Text: "all of it"}},
	}
}

func TestExamples(t *testing.T) {
	grant := api.Msg{Kind: api.MsgGrant, From: 1, To: 2, Term: 3, Ok: true}
	if s := isForm(t, grant); s != framed("\x02\x01\x02\x03\x01") {
		t.Errorf("N1: %q", s)
	}
	refusesMsg(t, "N1", api.Msg{Kind: api.MsgGrant, From: 1, To: 2, Term: 3, Ok: true, Match: 1})
	refusesMsg(t, "N1", api.Msg{Kind: api.MsgGrant, From: 1, To: 2})
	refusesMsg(t, "N1", api.Msg{Kind: api.MsgGrant, From: 2, To: 2, Term: 3})
	refusesMsg(t, "N1", api.Msg{Kind: api.MsgInstall, From: 1, To: 2, Term: 3})
	refusesMsg(t, "N1", api.Msg{})
}

func TestForms(t *testing.T) {
	for i, c := range []string{
		"\x01\x01\x07\x05\x04\x03",
		"\x02\x02\x06\x05\x01",
		"\x03\x03\x05\x05\x04\x03\x02\x02\x04\x01\x00\x05\x02\x02do",
		"\x04\x04\x03\x05\x01\x09",
		"\x05\x07\x01\x05\x04\x03\x09all of it",
	} {
		if s := isForm(t, someOf()[i]); s != framed(c) {
			t.Errorf("N1: the form of kind %d is %q, want %q", i+1, s, framed(c))
		}
	}
	for kind := 1; kind <= 5; kind++ {
		for from := 1; from <= 7; from++ {
			for to := 1; to <= 7; to++ {
				m := someOf()[kind-1]
				m.From, m.To = from, to
				if from == to {
					refusesMsg(t, "N1: to itself", m)
					refusesText(t, "N1: to itself", formOf(m))
				} else {
					isForm(t, m)
				}
			}
		}
	}
}

func TestEdges(t *testing.T) {
	edit := func(kind int, change func(m *api.Msg)) api.Msg {
		m := someOf()[kind-1]
		change(&m)
		return m
	}
	marks := []api.Spot{{}, {Index: 1, Term: 1}, {Index: 1000000, Term: 1}, {Index: 1, Term: 1000000}, {Index: 1000000, Term: 1000000}}
	for kind := 1; kind <= 5; kind++ {
		for _, term := range []int{1, 127, 128, 1000000} {
			isForm(t, edit(kind, func(m *api.Msg) { m.Term = term }))
		}
	}
	for _, x := range marks {
		isForm(t, edit(api.MsgPoll, func(m *api.Msg) { m.Prev = x }))
		isForm(t, edit(api.MsgAppend, func(m *api.Msg) { m.Prev = x }))
		if x != (api.Spot{}) {
			isForm(t, edit(api.MsgInstall, func(m *api.Msg) { m.Snap.Mark = x }))
		}
	}
	for _, ok := range []bool{false, true} {
		isForm(t, edit(api.MsgGrant, func(m *api.Msg) { m.Ok = ok }))
		for _, n := range []int{0, 1, 1000000} {
			isForm(t, edit(api.MsgAppended, func(m *api.Msg) { m.Ok, m.Match = ok, n }))
			isForm(t, edit(api.MsgAppend, func(m *api.Msg) { m.Commit = n }))
		}
	}
	isForm(t, edit(api.MsgAppend, func(m *api.Msg) { m.Entries = nil }))
	isForm(t, edit(api.MsgAppend, func(m *api.Msg) { m.Entries = []api.Entry{} }))
	isForm(t, edit(api.MsgAppend, func(m *api.Msg) {
		m.Entries = []api.Entry{{Term: 1, Kind: 1, Text: "a start may say something, for a net"}, {Term: 1000000, Kind: 2}}
	}))
	for _, size := range []int{0, 1, 127, 128, 49999, 50000} {
		isForm(t, edit(api.MsgInstall, func(m *api.Msg) { m.Snap.Text = strings.Repeat("\xff", size) }))
	}
	greatest := edit(api.MsgAppend, func(m *api.Msg) {
		m.Term, m.Commit, m.Prev = 1000000, 1000000, api.Spot{Index: 1000000, Term: 1000000}
		m.Entries = slices.Repeat([]api.Entry{{Term: 1000000, Kind: 2, Text: strings.Repeat("x", 4000)}}, 16)
	})
	if s := isForm(t, greatest); len(s) > 70008 {
		t.Errorf("N3: a message of %d bytes is no packet", len(s))
	}
	none := api.Msg{Kind: api.MsgGrant, From: 1, To: 2, Term: 3, Entries: []api.Entry{}}
	if s, e := net.Encode(none); s != framed("\x02\x01\x02\x03\x00") || e != api.OK {
		t.Errorf("N1: an empty list is none: %q, %d", s, e)
	}
}

// TestFieldsThatAreNotNamed sets each field in each kind.
func TestFieldsThatAreNotNamed(t *testing.T) {
	fields := []struct {
		name  string
		kinds []int
		set   func(m *api.Msg)
	}{
		{"Prev", []int{1, 3}, func(m *api.Msg) { m.Prev = api.Spot{Index: 1, Term: 1} }},
		{"Prev.Index", nil, func(m *api.Msg) { m.Prev = api.Spot{Index: 1} }},
		{"Prev.Term", nil, func(m *api.Msg) { m.Prev = api.Spot{Term: 1} }},
		{"Entries", []int{3}, func(m *api.Msg) { m.Entries = []api.Entry{{Term: 1, Kind: 1}} }},
		{"zero Entries", nil, func(m *api.Msg) { m.Entries = make([]api.Entry, 1) }},
		{"Commit", []int{3}, func(m *api.Msg) { m.Commit = 1 }},
		{"Ok", []int{2, 4}, func(m *api.Msg) { m.Ok = true }},
		{"Match", []int{4}, func(m *api.Msg) { m.Match = 1 }},
		{"Snap", []int{5}, func(m *api.Msg) { m.Snap = api.Snapshot{Mark: api.Spot{Index: 1, Term: 1}, Text: "x"} }},
		{"Snap.Mark", []int{5}, func(m *api.Msg) { m.Snap = api.Snapshot{Mark: api.Spot{Index: 1, Term: 1}} }},
		{"Snap.Text", []int{5}, func(m *api.Msg) { m.Snap.Text = "x" }},
		{"Snap.Mark.Index", []int{5}, func(m *api.Msg) { m.Snap.Mark.Index = 1 }},
		{"Snap.Mark.Term", []int{5}, func(m *api.Msg) { m.Snap.Mark.Term = 1 }},
	}
	for _, m := range someOf() {
		for _, f := range fields {
			x := m
			f.set(&x)
			if slices.Contains(f.kinds, m.Kind) {
				isForm(t, x)
			} else {
				refusesMsg(t, "N1: kind with "+f.name, x)
			}
		}
	}
}

// wrong are messages that are of a kind, with the fields that it names, of which one is out of its bounds.
func wrong() []api.Msg {
	var l []api.Msg
	add := func(kind int, change func(m *api.Msg)) {
		m := someOf()[kind-1]
		m.Entries = slices.Clone(m.Entries)
		change(&m)
		l = append(l, m)
	}
	for kind := 1; kind <= 5; kind++ {
		for _, n := range []int{0, 8, 9, 128, 1000000, math.MaxInt32, math.MaxInt, -1, math.MinInt} {
			add(kind, func(m *api.Msg) { m.From = n })
			add(kind, func(m *api.Msg) { m.To = n })
		}
		for _, n := range []int{0, 1000001, math.MaxInt32, math.MaxInt, -1, math.MinInt} {
			add(kind, func(m *api.Msg) { m.Term = n })
		}
	}
	spots := []api.Spot{{Index: 1}, {Term: 1}, {Index: 1000000}, {Term: 1000000}, {Index: 1000001, Term: 1}, {Index: 1, Term: 1000001}, {Index: 1000001}, {Term: 1000001}, {Index: math.MaxInt, Term: 1}, {Index: 1, Term: math.MaxInt}, {Index: -1, Term: 1}, {Index: 1, Term: -1}, {Index: -1}, {Term: -1}, {Index: -1, Term: -1}, {Index: math.MinInt, Term: 1}}
	for _, s := range spots {
		add(api.MsgPoll, func(m *api.Msg) { m.Prev = s })
		add(api.MsgAppend, func(m *api.Msg) { m.Prev = s })
		add(api.MsgInstall, func(m *api.Msg) { m.Snap.Mark = s })
	}
	add(api.MsgInstall, func(m *api.Msg) { m.Snap.Mark = api.Spot{} })
	add(api.MsgInstall, func(m *api.Msg) { m.Snap.Text = strings.Repeat("x", 50001) })
	add(api.MsgInstall, func(m *api.Msg) { m.Snap.Text = strings.Repeat("x", 60000) })
	for _, n := range []int{-1, 1000001, math.MaxInt, math.MinInt} {
		add(api.MsgAppend, func(m *api.Msg) { m.Commit = n })
		add(api.MsgAppended, func(m *api.Msg) { m.Match = n })
	}
	for i := range 2 {
		for _, n := range []int{-1, 0, 1000001, math.MaxInt, math.MinInt} {
			add(api.MsgAppend, func(m *api.Msg) { m.Entries[i].Term = n })
		}
		for _, n := range []int{-1, 0, 3, math.MaxInt, math.MinInt} {
			add(api.MsgAppend, func(m *api.Msg) { m.Entries[i].Kind = n })
		}
		add(api.MsgAppend, func(m *api.Msg) { m.Entries[i].Text = strings.Repeat("x", 4001) })
	}
	add(api.MsgAppend, func(m *api.Msg) { m.Entries = slices.Repeat(m.Entries[:1], 17) })
	add(api.MsgAppend, func(m *api.Msg) { m.Entries = slices.Repeat(m.Entries[:1], 2000) })
	return l
}

func TestWhatMayNotBe(t *testing.T) {
	for _, m := range wrong() {
		refusesMsg(t, "N1", m)
		refusesText(t, "N1", formOf(m)) // a number below 0 stands there as one of 64 bits
	}
	for _, m := range someOf() {
		for _, kind := range []int{math.MinInt, -1, 0, 6, 7, 257, 1 << 32, math.MaxInt} {
			m.Kind = kind
			refusesMsg(t, "N1: no kind", m)
			refusesText(t, "N1: no kind", formOf(m))
		}
	}
	for _, kind := range []int{0, 6, 7} { // without fields, too
		refusesMsg(t, "N1: no kind", api.Msg{Kind: kind, From: 1, To: 2, Term: 3})
	}
	long := strings.Repeat("x", 60000)
	refusesMsg(t, "N1", api.Msg{Kind: api.MsgAppend, From: 1, To: 2, Term: 3, Entries: slices.Repeat([]api.Entry{{Term: 1, Kind: 1, Text: long}}, 16)})
	refusesMsg(t, "N1", api.Msg{Kind: api.MsgInstall, From: 1, To: 2, Term: 3, Snap: api.Snapshot{Mark: api.Spot{Index: 1, Term: 1}, Text: long + long}})
}

// TestTextsThatAreNoForm frames each, so that only what stands within is wrong.
func TestTextsThatAreNoForm(t *testing.T) {
	for _, s := range []string{
		"",
		"\x00",
		"\x02",
		"\x02\x01\x02\x03",
		"\x02\x01\x02\x03\x02",     // Ok neither 1 nor 0
		"\x02\x01\x02\x03\x81\x00", // with a group too much
		"\x82\x00\x01\x02\x03\x01", // the kind, too
		"\x02\x01\x02\x83\x00\x01", // the term, too
		"\x02\x01\x02\x03\x01\x00", // something behind it
		"\x02\x01\x02\x03\x01\x02\x01\x02\x03\x01",                              // another one behind it
		"\x02\x01\x02\x03" + u(math.MaxUint64),                                  // Ok
		"\x02\x01\x02\x03" + u(1<<32+1),                                         // Ok, if a number were cut to 32 bits
		"\x02\x01\x02" + u(1<<32+3) + "\x01",                                    // the term
		"\x02" + u(1<<32+1) + "\x02\x03\x01",                                    // a node
		u(1<<32+2) + "\x01\x02\x03\x01",                                         // the kind
		u(math.MaxUint64) + "\x01\x02\x03\x01",                                  // the kind
		"\x02\x01\x02\x03\xff\xff\xff\xff\xff\xff\xff\xff\xff",                  // cut
		"\x02\x01\x02\x03" + strings.Repeat("\x80", 10),                         // more than ten groups
		"\x04\x01\x02\x03\x02\x01",                                              // Ok
		"\x04\x01\x02\x03\x01",                                                  // no Match
		"\x01\x01\x02\x03\x04",                                                  // half a mark
		"\x03\x01\x02\x03\x00\x00\x00",                                          // how many entries
		"\x03\x01\x02\x03\x00\x00\x00\x01",                                      // one of them, which is missing
		"\x03\x01\x02\x03\x00\x00\x00\x01\x01\x02\x03ab",                        // its text cut
		"\x03\x01\x02\x03\x00\x00\x00\x00\x01\x02\x00",                          // an entry too much
		"\x03\x01\x02\x03\x00\x00\x00" + u(1<<32),                               // entries
		"\x03\x01\x02\x03\x00\x00\x00" + u(math.MaxUint64),                      // entries
		"\x03\x01\x02\x03\x00\x00\x00" + u(1000000) + "\x01",                    // entries
		"\x05\x01\x02\x03\x01\x01" + u(60001) + "x",                             // a text above pack's limit
		"\x05\x01\x02\x03\x01\x01" + u(math.MaxUint64),                          // a text
		"\x05\x01\x02\x03\x01\x01",                                              // no text
		"\x05\x01\x02\x03\x01\x01\x01xy",                                        // something behind the text
		strings.Repeat("\x01", 70000),                                           // as much as a frame holds
		"\x03\x01\x02\x03\x00\x00\x00\x11" + strings.Repeat("\x01\x02\x00", 17), // 17 entries
	} {
		refusesText(t, "N1", framed(s))
	}
	for _, n := range []uint64{1000001, 1 << 31, 1 << 32, 1<<32 + 1, 1<<63 - 1, 1 << 63, 1<<63 + 1, math.MaxUint64 - 1, math.MaxUint64} {
		refusesText(t, "N1: Ok", framed("\x02\x01\x02\x03"+u(n)))
		refusesText(t, "N1: Ok", framed("\x04\x01\x02\x03"+u(n)+"\x00"))
		refusesText(t, "N1: Match", framed("\x04\x01\x02\x03\x00"+u(n)))
		refusesText(t, "N1: Commit", framed("\x03\x01\x02\x03\x00\x00"+u(n)+"\x00"))
		refusesText(t, "N1: how many entries", framed("\x03\x01\x02\x03\x00\x00\x00"+u(n)))
		refusesText(t, "N1: how many entries", framed("\x03\x01\x02\x03\x00\x00\x00"+u(n)+"\x01\x02\x00"))
		refusesText(t, "N1: how long", framed("\x05\x01\x02\x03\x01\x01"+u(n)))
	}
	grant := framed("\x02\x01\x02\x03\x01")
	for _, s := range []string{"", "\x02\x01\x02\x03\x01", "x" + grant, grant + "x", grant + "\x00", grant + grant, grant[:len(grant)-1], grant[1:], strings.Repeat("\xff", 100), framed(grant)} {
		refusesText(t, "N1: no frame, or more", s)
	}
	beyond := strings.Repeat("x", 70001)
	refusesText(t, "N1: a frame that is too long", framed(beyond))
	refusesText(t, "N1: a text without an end", strings.Repeat(beyond, 20))
}

func TestBack(t *testing.T) {
	r := rand.New(rand.NewSource(1))
	var forms []string
	for i := range 1500 {
		m := randomMsg(r, 1+i%5)
		s := isForm(t, m)
		back, _ := net.Decode(s)
		if again, e := net.Encode(back); again != s || e != api.OK {
			t.Fatalf("P5.1: Encode of what was decoded is another text: %d", e)
		}
		forms = append(forms, s)
	}
	slices.Sort(forms)
	forms = slices.Compact(forms)
	for i := range len(forms) - 1 { // sorted: one that begins others stands ahead of one of them
		if strings.HasPrefix(forms[i+1], forms[i]) {
			t.Fatalf("P5.1: a form begins another one")
		}
	}
}

// TestOneForm decodes texts that are nearly forms: what is decoded must be written just so.
func TestOneForm(t *testing.T) {
	r := rand.New(rand.NewSource(2))
	met := 0
	for i := range 60000 {
		m := someOf()[i%5]
		text := []byte(formOf(m)[8:])
		for range 1 + r.Intn(2) {
			at := r.Intn(len(text))
			switch r.Intn(4) {
			case 0:
				text = slices.Delete(text, at, at+1)
			case 1:
				text = slices.Insert(text, at, byte(r.Intn(10)))
			case 2:
				text[at] = byte(r.Intn(256))
			default:
				text[at] = byte(r.Intn(10))
			}
		}
		s := framed(string(text))
		got, e := net.Decode(s)
		if e == api.OK {
			met++
			if again, e := net.Encode(got); again != s || e != api.OK || formOf(got) != s {
				t.Fatalf("P5.1: %q is decoded as %v, whose form is %q, %d", s, got, again, e)
			}
		} else if e != api.ErrNetForm || !isZero(got) {
			t.Fatalf("R3: Decode(%q) = %v, %d", s, got, e)
		}
	}
	if met < 1000 {
		t.Errorf("only %d of the texts were forms", met)
	}
}

func TestOneByteIsAnother(t *testing.T) {
	r := rand.New(rand.NewSource(3))
	for _, m := range someOf() {
		form := isForm(t, m)
		for at := range len(form) {
			for b := range 256 {
				if byte(b) != form[at] {
					refusesText(t, "P5.2", form[:at]+string([]byte{byte(b)})+form[at+1:])
				}
			}
		}
	}
	for i := range 60 {
		form := formOf(randomMsg(r, 1+i%5))
		for range 20 {
			at := r.Intn(len(form))
			refusesText(t, "P5.2", form[:at]+string([]byte{form[at] ^ byte(1+r.Intn(255))})+form[at+1:])
		}
	}
	// A length that is less, behind which stands what was the form's.
	long := formOf(api.Msg{Kind: api.MsgInstall, From: 1, To: 2, Term: 3, Snap: api.Snapshot{Mark: api.Spot{Index: 1, Term: 1}, Text: strings.Repeat("x", 50000)}})
	for at := range 4 {
		for b := range 256 {
			if byte(b) != long[at] {
				refusesText(t, "P5.2", long[:at]+string([]byte{byte(b)})+long[at+1:])
			}
		}
	}
}

func TestEndIsLacking(t *testing.T) {
	r := rand.New(rand.NewSource(4))
	for _, m := range someOf() {
		form := isForm(t, m)
		for end := range len(form) {
			refusesText(t, "P5.2", form[:end])
		}
	}
	for i := range 100 {
		form := formOf(randomMsg(r, 1+i%5))
		refusesText(t, "P5.2", form[:len(form)-1])
		refusesText(t, "P5.2", form[:r.Intn(len(form))])
	}
}

func TestMessagesAreNewMemory(t *testing.T) {
	m := someOf()[2]
	m.Entries = append(make([]api.Entry, 0, 8), m.Entries...)
	spare := m.Entries[:3]
	spare[2].Text = "spare room"
	was := slices.Clone(spare)
	form, _ := net.Encode(m)
	if !slices.Equal(spare, was) {
		t.Errorf("R5: Encode changed what it was handed")
	}
	one, _ := net.Decode(form)
	other, _ := net.Decode(form)
	one.Entries[0].Text = "turned"
	one.Entries = append(one.Entries, api.Entry{Term: 9})
	if !same(other, m) {
		t.Errorf("R5: two answers share a list: %v", other)
	}
	if third, e := net.Decode(form); !same(third, m) || e != api.OK {
		t.Errorf("R6: an answer hangs on what was done with an earlier one: %v", third)
	}
	if shares(other.Entries[1].Text, form) {
		t.Errorf("R5: a text lies in what was handed in")
	}
	install := formOf(someOf()[4])
	if last, _ := net.Decode(install); shares(last.Snap.Text, install) {
		t.Errorf("R5: a text lies in what was handed in")
	}
}

func shares(part, whole string) bool {
	from := uintptr(unsafe.Pointer(unsafe.StringData(whole)))
	at := uintptr(unsafe.Pointer(unsafe.StringData(part)))
	return at >= from && at < from+uintptr(len(whole))
}
