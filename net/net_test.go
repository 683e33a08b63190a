package net_test

import (
	"math"
	"math/rand"
	"slices"
	"strings"
	"testing"

	"rialto/api"
	"rialto/net"
)

// plain is a net as the chapter's words say it; balance counts of each packet what was sent and doubled, less what was taken.
type plain struct {
	room    int
	row     []api.Packet
	balance map[api.Packet]int
	sent    int
	taken   int
}

func newPlain(room int) *plain { return &plain{room: room, balance: map[api.Packet]int{}} }

func (p *plain) Send(x api.Packet) api.Errno {
	switch {
	case x.From < 1 || x.From > 7 || x.To < 1 || x.To > 7:
		return api.ErrArg
	case len(x.Text) > 70008:
		return api.ErrLong
	case len(p.row) >= p.room:
		return api.ErrNetFull
	}
	p.row = append(p.row, x)
	p.balance[x]++
	p.sent++
	return api.OK
}

func (p *plain) Take(i int) (api.Packet, api.Errno) {
	if i < 0 || i >= len(p.row) {
		return api.Packet{}, api.ErrNetNone
	}
	x := p.row[i]
	p.row = slices.Concat(p.row[:i], p.row[i+1:])
	p.balance[x]--
	p.taken++
	return x, api.OK
}

func (p *plain) Double(i int) api.Errno {
	switch {
	case i < 0 || i >= len(p.row):
		return api.ErrNetNone
	case len(p.row) >= p.room:
		return api.ErrNetFull
	}
	p.row = append(p.row, p.row[i])
	p.balance[p.row[i]]++
	return api.OK
}

func newNet(t *testing.T, room int) *net.Net {
	t.Helper()
	n, e := net.New(room)
	if n == nil || e != api.OK {
		t.Fatalf("N2: New(%d): %v, %d", room, n, e)
	}
	return n
}

func want(t *testing.T, promise string, is, want api.Errno) {
	t.Helper()
	if is != want {
		t.Errorf("%s: answered %d, want %d", promise, is, want)
	}
}

func takes(t *testing.T, promise string, n *net.Net, i int, p api.Packet, e api.Errno) {
	t.Helper()
	if x, is := n.Take(i); x != p || is != e {
		t.Errorf("%s: Take(%d) = %.80v, %d, want %.80v, %d", promise, i, x, is, p, e)
	}
}

// alike holds all that a net tells against the plain one.
func alike(t *testing.T, n *net.Net, p *plain) {
	t.Helper()
	all := n.All()
	if !slices.Equal(all, p.row) {
		t.Errorf("N4: All = %.200v, want %.200v", all, p.row)
	}
	if n.Len() != len(p.row) {
		t.Errorf("N4: Len = %d, want %d", n.Len(), len(p.row))
	}
	if sent, taken := n.Counts(); sent != p.sent || taken != p.taken {
		t.Errorf("N4: Counts = %d, %d, want %d, %d", sent, taken, p.sent, p.taken)
	}
	there := map[api.Packet]int{}
	for _, x := range all {
		there[x]++
	}
	for x, count := range p.balance {
		if there[x] != count {
			t.Errorf("P5.3: of %.80v there are %d, want %d", x, there[x], count)
		}
		delete(there, x)
	}
	if len(there) > 0 {
		t.Errorf("P5.3: made up: %.200v", there)
	}
}

var strange = []int{math.MinInt, math.MinInt32, -1, math.MaxInt32, math.MaxInt}

// anyPacket is one of few, so that many are like another one; some may not be.
func anyPacket(r *rand.Rand) api.Packet {
	p := api.Packet{From: 1 + r.Intn(2), To: 6 + r.Intn(2), Text: []string{"", "a", "b", "\x00", "ab"}[r.Intn(5)]}
	switch r.Intn(20) {
	case 0:
		p.From = append([]int{0, 8}, strange...)[r.Intn(7)]
	case 1:
		p.To = append([]int{0, 8}, strange...)[r.Intn(7)]
	case 2:
		p.Text = long[:len(long)-r.Intn(3)]
	}
	return p
}

var long = strings.Repeat("x", 70010)

func anyPlace(r *rand.Rand, there int) int {
	if r.Intn(10) == 0 {
		return append([]int{there, there + 1}, strange...)[r.Intn(7)]
	}
	return r.Intn(there + 1)
}

// step does one act on both, and holds what they answer against each other.
func step(t *testing.T, r *rand.Rand, n *net.Net, p *plain) {
	t.Helper()
	i := anyPlace(r, len(p.row))
	switch r.Intn(9) {
	case 0, 1, 2, 3:
		x := anyPacket(r)
		want(t, "N3: Send", n.Send(x), p.Send(x))
	case 4, 5, 6:
		x, e := p.Take(i)
		takes(t, "N3", n, i, x, e)
	default:
		want(t, "N3: Double", n.Double(i), p.Double(i))
	}
}

func TestAsTheWordsSay(t *testing.T) {
	for seed := range 200 {
		r := rand.New(rand.NewSource(int64(seed)))
		room := 1 + r.Intn(12)
		n, p := newNet(t, room), newPlain(room)
		alike(t, n, p)
		for range 200 {
			step(t, r, n, p)
			alike(t, n, p)
			if t.Failed() {
				t.Fatalf("seed %d", seed)
			}
		}
	}
}

func TestNew(t *testing.T) {
	for _, room := range []int{1, 2, 2999, 3000} {
		n := newNet(t, room)
		alike(t, n, newPlain(room))
		for range room {
			want(t, "N2: all of the room", n.Send(api.Packet{From: 1, To: 2}), api.OK)
		}
		want(t, "N2: no more than the room", n.Send(api.Packet{From: 1, To: 2}), api.ErrNetFull)
		want(t, "N2: no more than the room", n.Double(0), api.ErrNetFull)
		if n.Len() != room {
			t.Errorf("N4: Len = %d, want %d", n.Len(), room)
		}
	}
	for _, room := range []int{math.MinInt, -3000, -1, 0, 3001, 3002, math.MaxInt32, math.MaxInt} {
		if n, e := net.New(room); n != nil || e != api.ErrArg {
			t.Errorf("N2: New(%d): %v, %d", room, n, e)
		}
	}
}

func TestSend(t *testing.T) {
	n, p := newNet(t, 100), newPlain(100)
	for from := 1; from <= 7; from++ {
		for to := 1; to <= 7; to++ { // from a node to itself, too
			x := api.Packet{From: from, To: to, Text: "any text: a net does not read it"}
			p.Send(x)
			want(t, "N3", n.Send(x), api.OK)
		}
	}
	for _, size := range []int{0, 70007, 70008} {
		x := api.Packet{From: 1, To: 2, Text: long[:size]}
		p.Send(x)
		want(t, "N3", n.Send(x), api.OK)
	}
	alike(t, n, p)
	for _, node := range append([]int{0, 8, 9}, strange...) {
		want(t, "N3", n.Send(api.Packet{From: node, To: 1}), api.ErrArg)
		want(t, "N3", n.Send(api.Packet{From: 1, To: node}), api.ErrArg)
		want(t, "R2: N3", n.Send(api.Packet{From: node, To: 1, Text: long}), api.ErrArg)
	}
	want(t, "N3", n.Send(api.Packet{From: 1, To: 2, Text: long[:70009]}), api.ErrLong)
	alike(t, n, p)
}

func TestWhichErrorIsFirst(t *testing.T) {
	n, p := newNet(t, 1), newPlain(1)
	x := api.Packet{From: 1, To: 2, Text: "x"}
	p.Send(x)
	want(t, "N3", n.Send(x), api.OK)
	want(t, "R2: N3", n.Send(api.Packet{From: 8, To: 1, Text: long}), api.ErrArg)
	want(t, "R2: N3", n.Send(api.Packet{From: 1, To: 0}), api.ErrArg)
	want(t, "R2: N3", n.Send(api.Packet{From: 1, To: 2, Text: long}), api.ErrLong)
	want(t, "N3", n.Send(x), api.ErrNetFull)
	for _, i := range append([]int{1, 2}, strange...) {
		want(t, "R2: N3", n.Double(i), api.ErrNetNone)
		takes(t, "N3", n, i, api.Packet{}, api.ErrNetNone)
	}
	want(t, "N3", n.Double(0), api.ErrNetFull)
	alike(t, n, p)
	takes(t, "N3", n, 0, x, api.OK)
	takes(t, "N3: there no more", n, 0, api.Packet{}, api.ErrNetNone)
	want(t, "N3", n.Double(0), api.ErrNetNone)
	want(t, "N3: there is room again", n.Send(x), api.OK)
}

func TestTakeAndDouble(t *testing.T) {
	packets := func(s string) []api.Packet {
		var l []api.Packet
		for i := range len(s) {
			l = append(l, api.Packet{From: 1, To: 2, Text: s[i : i+1]})
		}
		return l
	}
	row := func(promise string, n *net.Net, s string) {
		t.Helper()
		if l := n.All(); !slices.Equal(l, packets(s)) {
			t.Errorf("%s: All = %v, want %q", promise, l, s)
		}
	}
	n := newNet(t, 6)
	for _, p := range packets("abcd") {
		want(t, "N3", n.Send(p), api.OK)
	}
	row("N3: the last one", n, "abcd")
	takes(t, "N3", n, 1, packets("b")[0], api.OK)
	row("N3: those behind it move up", n, "acd")
	want(t, "N3", n.Double(1), api.OK)
	row("N3: a packet like it is the last one", n, "acdc")
	want(t, "N3", n.Double(3), api.OK)
	row("N3", n, "acdcc")
	takes(t, "N3: one of several alike", n, 3, packets("c")[0], api.OK)
	row("P5.3", n, "acdc")
	takes(t, "N3", n, 3, packets("c")[0], api.OK)
	takes(t, "N3", n, 0, packets("a")[0], api.OK)
	row("N3", n, "cd")
	if sent, taken := n.Counts(); sent != 4 || taken != 4 {
		t.Errorf("N4: Counts = %d, %d, want 4, 4", sent, taken)
	}
	takes(t, "N3", n, 0, packets("c")[0], api.OK)
	takes(t, "N3", n, 0, packets("d")[0], api.OK)
	row("N3", n, "")
	want(t, "N3", n.Send(packets("e")[0]), api.OK)
	row("N3", n, "e")
}

// TestAlikeButForOneField: each is a packet of its own.
func TestAlikeButForOneField(t *testing.T) {
	l := []api.Packet{{From: 1, To: 2, Text: "x"}, {From: 2, To: 1, Text: "x"}, {From: 1, To: 1, Text: "x"}, {From: 1, To: 2, Text: "y"}, {From: 1, To: 2}}
	n, p := newNet(t, 20), newPlain(20)
	for i, x := range l {
		for range i + 1 {
			p.Send(x)
			want(t, "N3", n.Send(x), api.OK)
		}
	}
	for n.Len() > 0 {
		x, e := p.Take(n.Len() / 2)
		takes(t, "P5.3", n, n.Len()/2, x, e)
		alike(t, n, p)
		if t.Failed() {
			return
		}
	}
	if sent, taken := n.Counts(); sent != 15 || taken != 15 {
		t.Errorf("N4: Counts = %d, %d, want 15, 15", sent, taken)
	}
}

func TestPacketsAreNewMemory(t *testing.T) {
	n := newNet(t, 10)
	whole := "a text of which a piece is sent"
	want(t, "N3", n.Send(api.Packet{From: 1, To: 2, Text: whole[2:6]}), api.OK)
	want(t, "N3", n.Send(api.Packet{From: 2, To: 1, Text: "b"}), api.OK)
	was := n.All()
	if shares(was[0].Text, whole) {
		t.Errorf("R5: what was handed in is kept")
	}
	l := n.All()
	l[0] = api.Packet{From: 7, To: 7, Text: "turned"}
	l = append(l[:1], api.Packet{From: 6, To: 6})
	if again := n.All(); !slices.Equal(again, was) {
		t.Errorf("R5: All = %v, when an earlier answer is %v", again, l)
	}
	n.Take(0)
	n.Double(0)
	if was[0].Text != "text" || was[1].Text != "b" {
		t.Errorf("R5: an earlier answer became %v", was)
	}
	other := newNet(t, 10)
	if sent, taken := other.Counts(); other.Len() != 0 || sent != 0 || taken != 0 {
		t.Errorf("R6: a new net hangs on another one")
	}
}

func TestMuchIsUnderWay(t *testing.T) {
	r := rand.New(rand.NewSource(5))
	n, p := newNet(t, 3000), newPlain(3000)
	for i := range 9000 {
		x := api.Packet{From: 1 + i%7, To: 1 + i%5, Text: strings.Repeat("m", i%50)}
		want(t, "N3", n.Send(x), p.Send(x))
		if r.Intn(2) == 0 {
			at := r.Intn(n.Len())
			x, e := p.Take(at)
			takes(t, "N3", n, at, x, e)
		}
	}
	alike(t, n, p)
	if n.Len() < 2900 {
		t.Errorf("only %d are under way", n.Len())
	}
	for n.Len() > 0 && !t.Failed() {
		x, e := p.Take(0)
		takes(t, "N3", n, 0, x, e)
	}
	alike(t, n, p)
}
