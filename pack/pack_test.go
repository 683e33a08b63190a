package pack_test

import (
	"math"
	"math/big"
	"math/bits"
	"math/rand"
	"slices"
	"strings"
	"testing"
	"unsafe"

	"rialto/api"
	"rialto/pack"
)

// numbers are those at which a form grows by a byte, those beside them, and some of every size.
func numbers() []uint64 {
	l := []uint64{0, 1, 2, 63, 64, 300, 3999, 4000, 4001, 59999, 60000, 60001, math.MaxInt64, math.MaxInt64 + 1, math.MaxUint64 - 1, math.MaxUint64}
	for b := range 64 {
		l = append(l, 1<<b-1, 1<<b, 1<<b+1)
	}
	r := rand.New(rand.NewSource(1))
	for b := range 64 {
		for range 20 {
			l = append(l, r.Uint64()>>b)
		}
	}
	return l
}

// signed are numbers with a sign of all sizes, on both sides.
func signed() []int64 {
	l := []int64{math.MinInt64, math.MinInt64 + 1, math.MaxInt64}
	for _, n := range numbers() {
		l = append(l, int64(n), -int64(n))
	}
	return l
}

// formOf is the form of a number by the chapter's words: groups of seven bits, by division.
func formOf(n *big.Int) string {
	var form []byte
	group := new(big.Int)
	for {
		n, group = new(big.Int).DivMod(n, big.NewInt(128), group)
		if n.Sign() == 0 {
			return string(append(form, byte(group.Int64())))
		}
		form = append(form, byte(group.Int64())+128)
	}
}

func formOfUint(n uint64) string { return formOf(new(big.Int).SetUint64(n)) }

func formOfInt(n int64) string {
	twice := new(big.Int).Mul(big.NewInt(2), big.NewInt(n))
	if n < 0 {
		twice.Neg(twice).Sub(twice, big.NewInt(1))
	}
	return formOf(twice)
}

// lists are lists of texts: none, empty ones, long ones, many.
func lists() [][]string {
	l := [][]string{nil, {}, {""}, {"", ""}, {"a", ""}, {"", "a"}, {"\x80", "\xff\x00"}, make([]string, api.MaxItems), {strings.Repeat("x", api.MaxPiece), "", strings.Repeat("\xff", 128)}}
	r := rand.New(rand.NewSource(2))
	for range 100 {
		one := make([]string, r.Intn(6))
		for i := range one {
			one[i] = randomText(r, r.Intn(200))
		}
		l = append(l, one)
	}
	return l
}

func randomText(r *rand.Rand, size int) string {
	b := make([]byte, size)
	for i := range b {
		b[i] = byte(r.Intn(256))
	}
	return string(b)
}

// around are texts to stand ahead of a form or behind it: such as might be taken for a part of it.
var around = []string{"", "\x00", "\x01", "\x80", "\xff\xff", "some text"}

func TestUintWritesTheForm(t *testing.T) {
	for n, want := range map[uint64]string{0: "\x00", 127: "\x7f", 128: "\x80\x01", 300: "\xac\x02", math.MaxUint64: strings.Repeat("\xff", 9) + "\x01"} {
		if s := pack.Uint(n); s != want {
			t.Errorf("K1: Uint(%d) = %q, want %q", n, s, want)
		}
	}
	for _, n := range numbers() {
		if s := pack.Uint(n); s != formOfUint(n) {
			t.Errorf("K1: Uint(%d) = %q, want %q", n, s, formOfUint(n))
		}
	}
}

func TestIntWritesTheForm(t *testing.T) {
	for n, want := range map[int64]string{0: "\x00", -1: "\x01", 1: "\x02", -64: "\x7f", 64: "\x80\x01", math.MinInt64: strings.Repeat("\xff", 9) + "\x01"} {
		if s := pack.Int(n); s != want {
			t.Errorf("K1: Int(%d) = %q, want %q", n, s, want)
		}
	}
	for _, n := range signed() {
		if s := pack.Int(n); s != formOfInt(n) {
			t.Errorf("K1: Int(%d) = %q, want %q", n, s, formOfInt(n))
		}
	}
}

func TestTextWritesTheForm(t *testing.T) {
	for _, size := range []int{0, 1, 2, 127, 128, 16383, 16384, api.MaxPiece - 1, api.MaxPiece} {
		text := strings.Repeat("\x80", size)
		if s, e := pack.Text(text); s != formOfUint(uint64(size))+text || e != api.OK {
			t.Errorf("K1: Text of %d bytes: %d bytes, %d", size, len(s), e)
		}
	}
	for _, size := range []int{api.MaxPiece + 1, 1 << 20} {
		if s, e := pack.Text(strings.Repeat("x", size)); s != "" || e != api.ErrLong {
			t.Errorf("K1: Text of %d bytes: %d bytes, %d", size, len(s), e)
		}
	}
}

func TestListWritesTheForm(t *testing.T) {
	for _, l := range lists() {
		want := formOfUint(uint64(len(l)))
		for _, s := range l {
			want += formOfUint(uint64(len(s))) + s
		}
		kept := slices.Clone(l)
		if s, e := pack.List(l); s != want || e != api.OK {
			t.Errorf("K1: List of %d texts: %d bytes, %d, want %d bytes", len(l), len(s), e, len(want))
		}
		if !slices.Equal(l, kept) {
			t.Errorf("R5: List changed what was handed in")
		}
	}
	long := strings.Repeat("x", api.MaxPiece+1)
	last := make([]string, api.MaxItems)
	last[api.MaxItems-1] = long
	for _, l := range [][]string{make([]string, api.MaxItems+1), {long}, {"", long}, {long, ""}, last, append(last, "")} {
		if s, e := pack.List(l); s != "" || e != api.ErrLong {
			t.Errorf("K1: List of %d texts: %d bytes, %d", len(l), len(s), e)
		}
	}
}

func TestPlacesOutside(t *testing.T) {
	for _, s := range []string{"", "\x00", "\x00\x00\x00", "\x80\x00", "\xff\xff\xff\xff"} {
		for _, at := range []int{math.MinInt, -2, -1, len(s) + 1, len(s) + 2, math.MaxInt} {
			if a := answers(s, at); a != (four{api.ErrArg, api.ErrArg, api.ErrArg, api.ErrArg}) {
				t.Errorf("K2: %q at %d: %v", s, at, a)
			}
		}
		if a := answers(s, len(s)); a != (four{api.ErrPackCut, api.ErrPackCut, api.ErrPackCut, api.ErrPackCut}) {
			t.Errorf("K2: %q at its end: %v", s, a)
		}
	}
}

type four [4]api.Errno

// answers are the errors of the four that take; with one of them all else must be zero, -1 tells that it was not.
func answers(s string, at int) four {
	n, a, e := pack.TakeUint(s, at)
	i, b, f := pack.TakeInt(s, at)
	x, c, g := pack.TakeText(s, at)
	l, d, h := pack.TakeList(s, at)
	out := four{e, f, g, h}
	for k, zero := range []bool{n == 0 && a == 0, i == 0 && b == 0, x == "" && c == 0, len(l) == 0 && d == 0} {
		if out[k] != api.OK && !zero {
			out[k] = -1
		}
	}
	return out
}

func TestNumbersOfWrongForm(t *testing.T) {
	nine := func(b string) string { return strings.Repeat(b, 9) }
	for s, want := range map[string]api.Errno{
		"":                          api.ErrPackCut,
		"\x80":                      api.ErrPackCut,
		"\x80\x80":                  api.ErrPackCut,
		nine("\x80"):                api.ErrPackCut,
		nine("\xff"):                api.ErrPackCut,
		"\x80\x00":                  api.ErrPackForm,
		"\xff\x00":                  api.ErrPackForm,
		"\xff\x80\x00":              api.ErrPackForm,
		nine("\x80") + "\x00":       api.ErrPackForm,
		nine("\xff") + "\x00":       api.ErrPackForm,
		nine("\x80") + "\x02":       api.ErrPackForm,
		nine("\xff") + "\x02":       api.ErrPackForm,
		nine("\xff") + "\x03":       api.ErrPackForm,
		nine("\xff") + "\x7f":       api.ErrPackForm,
		nine("\x80") + "\x80":       api.ErrPackForm,
		nine("\x80") + "\x81":       api.ErrPackForm,
		nine("\x80") + "\x80\x01":   api.ErrPackForm,
		nine("\x80") + "\x81\x00":   api.ErrPackForm,
		nine("\xff") + "\xff\xff":   api.ErrPackForm,
		"\x80\x00" + "\x00":         api.ErrPackForm,
		nine("\x80") + "\x01":       api.OK,
		nine("\xff") + "\x01":       api.OK,
		nine("\x80") + "\x01\x80":   api.OK,
		"\x80\x80\x80\x01":          api.OK,
		strings.Repeat("\x00", 2):   api.OK,
		"\x7f" + nine("\xff"):       api.OK,
		strings.Repeat("\xff", 100): api.ErrPackForm,
	} {
		if a := answers(s, 0); a[0] != want || a[1] != want {
			t.Errorf("K2: TakeUint and TakeInt of %q: %v, want %d", s, a, want)
		}
		if a := answers(s, 0); want != api.OK && a != (four{want, want, want, want}) {
			t.Errorf("K2: texts and lists begin with a number: %q: %v, want %d", s, a, want)
		}
	}
}

func TestTextsOfWrongForm(t *testing.T) {
	for s, want := range map[string]api.Errno{
		"\x03ab":                             api.ErrPackCut,
		"\x01":                               api.ErrPackCut,
		pack.Uint(60000):                     api.ErrPackCut,
		pack.Uint(60000) + "ab":              api.ErrPackCut,
		pack.Uint(60001):                     api.ErrPackForm,
		pack.Uint(1 << 31):                   api.ErrPackForm,
		pack.Uint(1<<32 + 1):                 api.ErrPackForm,
		pack.Uint(1 << 63):                   api.ErrPackForm,
		pack.Uint(math.MaxUint64):            api.ErrPackForm,
		"\xe1\xd4":                           api.ErrPackCut,
		"\x82\x00ab":                         api.ErrPackForm,
		strings.Repeat("\xff", 9) + "\x02ab": api.ErrPackForm,
	} {
		if x, at, e := pack.TakeText(s, 0); x != "" || at != 0 || e != want {
			t.Errorf("K2: TakeText of %q = %q, %d, %d, want %d", s, x, at, e, want)
		}
	}
	long := pack.Uint(60001) + strings.Repeat("x", 60001)
	if x, at, e := pack.TakeText(long, 0); x != "" || at != 0 || e != api.ErrPackForm {
		t.Errorf("K2: TakeText of 60001 bytes: %d, %d", at, e)
	}
}

func TestListsOfWrongForm(t *testing.T) {
	for s, want := range map[string]api.Errno{
		"\x01":                             api.ErrPackCut,
		"\x02\x00":                         api.ErrPackCut,
		"\x02\x01a\x01":                    api.ErrPackCut,
		"\x02\x01a\x80":                    api.ErrPackCut,
		"\x02\x05a\x00":                    api.ErrPackCut,
		"\x02\x05\x80\x00":                 api.ErrPackCut, // the end is met ahead of what would be no form
		"\x02\x01a\x80\x00":                api.ErrPackForm,
		"\x02\x80\x00":                     api.ErrPackForm, // a wrong form ahead of the end
		"\x02" + pack.Uint(60001):          api.ErrPackForm,
		"\x02\x01a" + pack.Uint(60001):     api.ErrPackForm,
		"\x02\x01a" + pack.Uint(60000):     api.ErrPackCut,
		pack.Uint(4000):                    api.ErrPackCut,
		pack.Uint(4001):                    api.ErrPackForm,
		pack.Uint(1 << 31):                 api.ErrPackForm,
		pack.Uint(1 << 63):                 api.ErrPackForm,
		pack.Uint(math.MaxUint64):          api.ErrPackForm,
		"\xa1":                             api.ErrPackCut,
		strings.Repeat("\xff", 9) + "\x02": api.ErrPackForm,
	} {
		if l, at, e := pack.TakeList(s, 0); len(l) != 0 || at != 0 || e != want {
			t.Errorf("K2: TakeList of %q = %q, %d, %d, want %d", s, l, at, e, want)
		}
	}
	many := pack.Uint(4001) + strings.Repeat("\x00", 4001)
	if l, at, e := pack.TakeList(many, 0); len(l) != 0 || at != 0 || e != api.ErrPackForm {
		t.Errorf("K2: TakeList of 4001 texts: %d, %d, %d", len(l), at, e)
	}
}

// TestTakeByTheWords holds what is taken of short texts against the chapter's words: byte by byte, is what was read a form, the beginning of one, or neither.
func TestTakeByTheWords(t *testing.T) {
	check := func(s string) {
		for at := range len(s) + 1 {
			n, end, e := pack.TakeUint(s, at)
			wantN, wantEnd, wantE := numberByTheWords(s, at)
			if n != wantN || end != wantEnd || e != wantE {
				t.Fatalf("K2: TakeUint(%q, %d) = %d, %d, %d, want %d, %d, %d", s, at, n, end, e, wantN, wantEnd, wantE)
			}
			l, end, e := pack.TakeList(s, at)
			wantL, wantEnd, wantE := listByTheWords(s, at)
			if !slices.Equal(l, wantL) || end != wantEnd || e != wantE {
				t.Fatalf("K2: TakeList(%q, %d) = %q, %d, %d, want %q, %d, %d", s, at, l, end, e, wantL, wantEnd, wantE)
			}
		}
	}
	for a := range 256 {
		check(string([]byte{byte(a)}))
		for b := range 256 {
			check(string([]byte{byte(a), byte(b)}))
		}
	}
	few := "\x00\x01\x02\x03\x7f\x80\x81\xff"
	var grow func(s string, left int)
	grow = func(s string, left int) {
		check(s)
		for i := 0; i < len(few) && left > 0; i++ {
			grow(s+few[i:i+1], left-1)
		}
	}
	grow("", 5)
	r := rand.New(rand.NewSource(3))
	for range 20000 {
		b := make([]byte, r.Intn(13))
		for i := range b {
			b[i] = few[r.Intn(len(few))] | byte(r.Intn(2))<<7
		}
		check(string(b))
	}
}

func numberByTheWords(s string, at int) (uint64, int, api.Errno) {
	for end := at + 1; end <= len(s); end++ {
		read := s[at:end]
		n := new(big.Int)
		for i := range len(read) {
			n.Add(n, new(big.Int).Lsh(big.NewInt(int64(read[i]%128)), uint(7*i)))
		}
		last := read[len(read)-1]
		if last < 128 && n.IsUint64() && formOf(n) == read {
			return n.Uint64(), end, api.OK
		}
		if last < 128 || len(read) == 10 {
			return 0, 0, api.ErrPackForm
		}
	}
	return 0, 0, api.ErrPackCut
}

func listByTheWords(s string, at int) ([]string, int, api.Errno) {
	n, at, e := numberByTheWords(s, at)
	if e == api.OK && n > 4000 {
		e = api.ErrPackForm
	}
	if e != api.OK {
		return nil, 0, e
	}
	var l []string
	for range n {
		size, from, e := numberByTheWords(s, at)
		if e == api.OK && size > 60000 {
			e = api.ErrPackForm
		}
		if e == api.OK && from+int(size) > len(s) {
			e = api.ErrPackCut
		}
		if e != api.OK {
			return nil, 0, e
		}
		at = from + int(size)
		l = append(l, s[from:at])
	}
	return l, at, api.OK
}

func TestNumbersComeBack(t *testing.T) {
	for _, ahead := range around {
		for _, behind := range around {
			for _, n := range numbers() {
				s := ahead + pack.Uint(n)
				if k, at, e := pack.TakeUint(s+behind, len(ahead)); k != n || at != len(s) || e != api.OK {
					t.Fatalf("P1.1: TakeUint of %d = %d, %d, %d", n, k, at, e)
				}
			}
			for _, n := range signed() {
				s := ahead + pack.Int(n)
				if k, at, e := pack.TakeInt(s+behind, len(ahead)); k != n || at != len(s) || e != api.OK {
					t.Fatalf("P1.1: TakeInt of %d = %d, %d, %d", n, k, at, e)
				}
			}
		}
	}
}

func TestTextsAndListsComeBack(t *testing.T) {
	for _, ahead := range around {
		for _, behind := range around {
			for _, l := range lists() {
				form, _ := pack.List(l)
				s := ahead + form
				if k, at, e := pack.TakeList(s+behind, len(ahead)); !slices.Equal(k, l) || at != len(s) || e != api.OK {
					t.Fatalf("P1.1: TakeList of %d texts: %d texts, %d, %d", len(l), len(k), at, e)
				}
				for _, x := range l[:min(len(l), 4)] {
					form, _ := pack.Text(x)
					s := ahead + form
					if k, at, e := pack.TakeText(s+behind, len(ahead)); k != x || at != len(s) || e != api.OK {
						t.Fatalf("P1.1: TakeText of %d bytes: %d bytes, %d, %d", len(x), len(k), at, e)
					}
				}
			}
		}
	}
}

// TestOneForm takes what it can of texts of all kinds, and writes it again.
func TestOneForm(t *testing.T) {
	r := rand.New(rand.NewSource(4))
	few := "\x00\x01\x02\x03\x7f\x80\x81\xff"
	for range 50000 {
		b := make([]byte, r.Intn(14))
		for i := range b {
			b[i] = few[r.Intn(len(few))]
		}
		s, at := string(b), r.Intn(len(b)+1)
		if n, end, e := pack.TakeUint(s, at); e == api.OK {
			writtenAgain(t, s, at, end, pack.Uint(n), func(cut string) api.Errno { _, _, e := pack.TakeUint(cut, at); return e })
		}
		if n, end, e := pack.TakeInt(s, at); e == api.OK {
			writtenAgain(t, s, at, end, pack.Int(n), func(cut string) api.Errno { _, _, e := pack.TakeInt(cut, at); return e })
		}
		if x, end, e := pack.TakeText(s, at); e == api.OK {
			form, _ := pack.Text(x)
			writtenAgain(t, s, at, end, form, func(cut string) api.Errno { _, _, e := pack.TakeText(cut, at); return e })
		}
		if l, end, e := pack.TakeList(s, at); e == api.OK {
			form, _ := pack.List(l)
			writtenAgain(t, s, at, end, form, func(cut string) api.Errno { _, _, e := pack.TakeList(cut, at); return e })
		}
	}
}

func writtenAgain(t *testing.T, s string, at, end int, form string, take func(cut string) api.Errno) {
	t.Helper()
	if form != s[at:end] {
		t.Fatalf("P1.2: %q at %d is written again as %q", s, at, form)
	}
	for cut := at; cut < end; cut++ {
		if e := take(s[:cut]); e != api.ErrPackCut {
			t.Fatalf("P1.2: %q, cut behind %d, at %d: %d", s, cut, at, e)
		}
	}
}

func TestGreatFormsCut(t *testing.T) {
	for _, l := range lists() {
		form, _ := pack.List(l)
		if _, _, e := pack.TakeList(form[:len(form)-1], 0); e != api.ErrPackCut {
			t.Errorf("P1.2: a list of %d texts without its last byte: %d", len(l), e)
		}
	}
	for _, n := range numbers() {
		form := pack.Uint(n)
		if _, _, e := pack.TakeUint(form[:len(form)-1], 0); e != api.ErrPackCut {
			t.Errorf("P1.2: %d without its last byte: %d", n, e)
		}
	}
}

func TestSmall(t *testing.T) {
	for _, n := range numbers() {
		want := max(1, (bits.Len64(n)+6)/7)
		if got := len(pack.Uint(n)); got != want {
			t.Errorf("P1.3: %d has %d bytes, want %d", n, got, want)
		}
	}
}

func TestAnswersAreNewMemory(t *testing.T) {
	form, _ := pack.List([]string{"some text", "another one"})
	l, _, _ := pack.TakeList(form, 0)
	text, _, _ := pack.TakeText(form, 1)
	for _, x := range append(l, text) {
		if shares(x, form) {
			t.Errorf("R5: what was taken lies in what was handed in: %q", x)
		}
	}
	a, _, _ := pack.TakeList(form, 0)
	a[0] = "turned"
	if b, _, _ := pack.TakeList(form, 0); b[0] != "some text" || l[0] != "some text" {
		t.Errorf("R6: an answer hangs on what was done with an earlier one")
	}
}

func shares(part, whole string) bool {
	from := uintptr(unsafe.Pointer(unsafe.StringData(whole)))
	at := uintptr(unsafe.Pointer(unsafe.StringData(part)))
	return at >= from && at < from+uintptr(len(whole))
}
