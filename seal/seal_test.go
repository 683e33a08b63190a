package seal_test

import (
	"encoding/binary"
	"hash/crc32"
	"math"
	"math/rand"
	"slices"
	"strings"
	"sync"
	"testing"
	"unsafe"

	"rialto/api"
	"rialto/seal"
)

func randomText(r *rand.Rand, size int) string {
	b := make([]byte, size)
	for i := range b {
		b[i] = byte(r.Intn(256))
	}
	return string(b)
}

// texts are of many sizes, those at the limit too.
func texts() []string {
	l := []string{"", "\x00", "\xff", "a", "123456789", strings.Repeat("\x00", 32), strings.Repeat("\xff", 32)}
	r := rand.New(rand.NewSource(1))
	for _, size := range []int{1, 2, 3, 4, 5, 7, 8, 9, 255, 256, 257, 65535, 65536, api.MaxFrame - 1, api.MaxFrame} {
		l = append(l, randomText(r, size))
	}
	return l
}

func frame(t *testing.T, s string) string {
	t.Helper()
	f, e := seal.Frame(s)
	if e != api.OK {
		t.Fatalf("F1: Frame of %d bytes: %d", len(s), e)
	}
	return f
}

// sumByTheWords goes bit by bit, as the chapter says it.
func sumByTheWords(s string) uint32 {
	register := uint32(0xffffffff)
	for i := range len(s) {
		for bit := range 8 {
			in := uint32(s[i]>>bit) & 1
			fell := register & 1
			register >>= 1
			if fell != in {
				register ^= 0xedb88320
			}
		}
	}
	return ^register
}

// TestSumsAskedForAtOnce stands ahead of the others, so that here the table is yet to be made.
func TestSumsAskedForAtOnce(t *testing.T) {
	var all sync.WaitGroup
	got := make([]uint32, 16)
	for i := range got {
		all.Go(func() { got[i] = seal.Sum("123456789") })
	}
	all.Wait()
	for _, n := range got {
		if n != 0xcbf43926 {
			t.Errorf("R6: Sum = %x", n)
		}
	}
}

func TestSum(t *testing.T) {
	for s, want := range map[string]uint32{"": 0, "a": 0xe8b7be43, "123456789": 0xcbf43926} {
		if n := seal.Sum(s); n != want {
			t.Errorf("F1: Sum(%q) = %x, want %x", s, n, want)
		}
	}
	for _, s := range texts() {
		if n := seal.Sum(s); n != sumByTheWords(s) || n != crc32.ChecksumIEEE([]byte(s)) {
			t.Errorf("F1: Sum of %d bytes = %x, want %x", len(s), n, sumByTheWords(s))
		}
	}
	for b := range 256 {
		s := string([]byte{byte(b)})
		if n := seal.Sum(s); n != sumByTheWords(s) {
			t.Errorf("F1: Sum(%q) = %x, want %x", s, n, sumByTheWords(s))
		}
	}
	long := strings.Repeat("more than a frame holds ", 10000)
	if n := seal.Sum(long); n != sumByTheWords(long) {
		t.Errorf("F1: Sum of %d bytes = %x", len(long), n)
	}
}

func TestFrame(t *testing.T) {
	if f := frame(t, "a"); f != "\x00\x00\x00\x01\xe5\x8c\x97\x92a" {
		t.Errorf("F1: Frame of a = %q", f)
	}
	for _, s := range texts() {
		length := string(binary.BigEndian.AppendUint32(nil, uint32(len(s))))
		sum := string(binary.BigEndian.AppendUint32(nil, sumByTheWords(length+s)))
		if f := frame(t, s); f != length+sum+s {
			t.Errorf("F1: Frame of %d bytes begins with %q, want %q", len(s), f[:8], length+sum)
		}
	}
	for _, size := range []int{api.MaxFrame + 1, 1 << 20} {
		if f, e := seal.Frame(strings.Repeat("x", size)); f != "" || e != api.ErrLong {
			t.Errorf("F1: Frame of %d bytes: %d bytes, %d", size, len(f), e)
		}
	}
}

func TestUnframeRefuses(t *testing.T) {
	f := frame(t, "text")
	for i, c := range []struct {
		s    string
		at   int
		want api.Errno
	}{
		{f, math.MinInt, api.ErrArg},
		{f, -1, api.ErrArg},
		{f, len(f) + 1, api.ErrArg},
		{f, math.MaxInt, api.ErrArg},
		{"", 1, api.ErrArg},
		{"", 0, api.ErrSealCut},
		{f, len(f), api.ErrSealCut},
		{f, len(f) - 7, api.ErrSealCut},
		{"\xff\xff\xff\xff\xff\xff\xff", 0, api.ErrSealCut}, // too short to be looked at
		{"\xff\xff\xff\xff\xff\xff\xff\xff", 0, api.ErrSealLong},
		{"\x80\x00\x00\x00\x00\x00\x00\x00", 0, api.ErrSealLong},
		{"\x7f\xff\xff\xff\x00\x00\x00\x00", 0, api.ErrSealLong},
		{"\x01\x00\x00\x01\x00\x00\x00\x00a", 0, api.ErrSealLong},
		{"\x00\x01\x11\x71\x00\x00\x00\x00", 0, api.ErrSealLong},
		{"\x00\x01\x11\x70\x00\x00\x00\x00", 0, api.ErrSealCut},
		{"\x00\x00\x00\x01\x00\x00\x00\x00", 0, api.ErrSealCut},
		{"x\x00\x00\x00\x01\x00\x00\x00\x00", 1, api.ErrSealCut},
		{"\x00\x00\x00\x01\x00\x00\x00\x00a", 0, api.ErrSealSum},
		{"\x00\x00\x00\x00\x00\x00\x00\x00", 0, api.ErrSealSum},
		{"\x00\x00\x00\x01\xe8\xb7\xbe\x43a", 0, api.ErrSealSum}, // the sum of the text alone
		{"\x00\x00\x00\x01\x92\x97\x8c\xe5a", 0, api.ErrSealSum}, // the lowest bits first
		{f, 1, api.ErrSealCut},
		{"x" + f, 0, api.ErrSealLong},
	} {
		if s, at, e := seal.Unframe(c.s, c.at); s != "" || at != 0 || e != c.want {
			t.Errorf("F2: %d: Unframe(%q, %d) = %q, %d, %d, want %d", i, c.s, c.at, s, at, e, c.want)
		}
	}
	beyond := strings.Repeat("x", api.MaxFrame+1)
	length := "\x00\x01\x11\x71"
	whole := length + string(binary.BigEndian.AppendUint32(nil, seal.Sum(length+beyond))) + beyond
	if s, at, e := seal.Unframe(whole, 0); s != "" || at != 0 || e != api.ErrSealLong {
		t.Errorf("F2: a frame of 70001 bytes: %d bytes, %d, %d", len(s), at, e)
	}
}

func TestFramesEndWhereNoneStands(t *testing.T) {
	a, none, b := frame(t, "a"), frame(t, ""), frame(t, "some text")
	turned := b[:len(b)-1] + "T"
	long := "\x00\x01\x11\x71\x00\x00\x00\x00"
	for i, c := range []struct {
		s    string
		want []string
		at   int
	}{
		{"", nil, 0},
		{"a", nil, 0},
		{long, nil, 0},
		{"x" + a, nil, 0},
		{a, []string{"a"}, 9},
		{none, []string{""}, 8},
		{none + none + none, []string{"", "", ""}, 24},
		{a + none + b, []string{"a", "", "some text"}, 34},
		{a + none + a + a[:5], []string{"a", "", "a"}, 26},
		{a + b[:8], []string{"a"}, 9},
		{a + turned, []string{"a"}, 9},
		{a + turned + a, []string{"a"}, 9}, // what stands behind a wrong one is not looked for
		{turned + a, nil, 0},
		{b + long + a, []string{"some text"}, 17},
		{b + "x" + a, []string{"some text"}, 17},
	} {
		if l, at := seal.Frames(c.s); !slices.Equal(l, c.want) || at != c.at {
			t.Errorf("F3: %d: Frames(%q) = %q, %d, want %q, %d", i, c.s, l, at, c.want, c.at)
		}
	}
}

func TestFramesComeBack(t *testing.T) {
	around := []string{"", "\x00", "\x00\x00\x00\x01\x00\x00\x00\x00a", "\xff\xff\xff\xff\xff\xff\xff\xff", "something", frame(t, "another")}
	for _, s := range texts() {
		for _, ahead := range around {
			for _, behind := range around {
				whole := ahead + frame(t, s)
				if x, at, e := seal.Unframe(whole+behind, len(ahead)); x != s || at != len(whole) || e != api.OK {
					t.Fatalf("P2.1: Unframe of %d bytes: %d bytes, %d, %d", len(s), len(x), at, e)
				}
			}
		}
	}
	r := rand.New(rand.NewSource(2))
	for range 200 {
		var want []string
		whole := ""
		for range r.Intn(10) {
			want = append(want, randomText(r, r.Intn(60)))
			whole += frame(t, want[len(want)-1])
		}
		behind := around[r.Intn(len(around)-1)]
		if l, at := seal.Frames(whole + behind); !slices.Equal(l, want) || at != len(whole) {
			t.Fatalf("P2.1: Frames: %q, %d, want %q, %d", l, at, want, len(whole))
		}
	}
}

func TestTorn(t *testing.T) {
	for _, s := range texts() {
		f := frame(t, s)
		step := 1 + len(f)/500
		for end := 0; end < len(f); end += step {
			torn(t, f[:end])
		}
		torn(t, f[:len(f)-1])
	}
}

func torn(t *testing.T, s string) {
	t.Helper()
	if x, at, e := seal.Unframe(s, 0); x != "" || at != 0 || e != api.ErrSealCut {
		t.Fatalf("P2.2: %d bytes of a frame: %d bytes, %d, %d", len(s), len(x), at, e)
	}
}

// turn turns those of 32 bits that are set in a pattern, from a bit on; false: not all of them stand in the text.
func turn(text string, from int, pattern uint32) (string, bool) {
	b := []byte(text)
	for i := range 32 {
		if pattern>>i&1 == 0 {
			continue
		}
		bit := from + i
		if bit >= 8*len(b) {
			return "", false
		}
		b[bit/8] ^= 1 << (bit % 8)
	}
	return string(b), true
}

func TestTurnedText(t *testing.T) {
	r := rand.New(rand.NewSource(3))
	for _, size := range []int{1, 2, 4, 5, 8, 31, 100, api.MaxFrame} {
		f := frame(t, randomText(r, size))
		patterns := []uint32{1, 3, 0x80000001, 0xffffffff, 0xedb88320, 0xdb710641, 0x104c11db}
		for range 20 {
			patterns = append(patterns, r.Uint32()|1)
		}
		places := []int{0, 1, 7, 8, 8*size - 33, 8*size - 32, 8*size - 2, 8*size - 1}
		for range 20 {
			places = append(places, r.Intn(8*size))
		}
		for _, from := range places {
			for _, pattern := range patterns {
				if text, ok := turn(f[8:], max(0, from), pattern); ok {
					wrongSum(t, f[:8]+text)
				}
			}
		}
	}
}

func TestTurnedSum(t *testing.T) {
	r := rand.New(rand.NewSource(4))
	for _, s := range []string{"", "a", "some text"} {
		f := frame(t, s)
		for bit := range 32 {
			sum, _ := turn(f[4:8], bit, 1)
			wrongSum(t, f[:4]+sum+f[8:])
		}
		for range 1000 {
			sum, _ := turn(f[4:8], 0, max(1, r.Uint32()))
			wrongSum(t, f[:4]+sum+f[8:])
		}
	}
}

func wrongSum(t *testing.T, f string) {
	t.Helper()
	if x, at, e := seal.Unframe(f, 0); x != "" || at != 0 || e != api.ErrSealSum {
		t.Fatalf("P2.3: a frame with turned bits: %d bytes, %d, %d", len(x), at, e)
	}
}

func TestEven(t *testing.T) {
	r := rand.New(rand.NewSource(5))
	for _, size := range []int{0, 1, 2, 3, 4, 5, 8, 33, 256, 1000, 70001} {
		for range 10 {
			a, b, c := randomText(r, size), randomText(r, size), randomText(r, size)
			mixed := make([]byte, size)
			for i := range mixed {
				mixed[i] = a[i] ^ b[i] ^ c[i]
			}
			if n := seal.Sum(string(mixed)); n != seal.Sum(a)^seal.Sum(b)^seal.Sum(c) {
				t.Fatalf("P2.4: three texts of %d bytes", size)
			}
		}
	}
}

func TestAnswersAreNewMemory(t *testing.T) {
	whole := frame(t, "some text") + frame(t, "another one")
	one, _, _ := seal.Unframe(whole, 0)
	l, _ := seal.Frames(whole)
	for _, x := range append(l, one) {
		if shares(x, whole) {
			t.Errorf("R5: what was taken lies in what was handed in: %q", x)
		}
	}
	l[0] = "turned"
	if again, _ := seal.Frames(whole); again[0] != "some text" {
		t.Errorf("R6: an answer hangs on what was done with an earlier one")
	}
}

func shares(part, whole string) bool {
	from := uintptr(unsafe.Pointer(unsafe.StringData(whole)))
	at := uintptr(unsafe.Pointer(unsafe.StringData(part)))
	return at >= from && at < from+uintptr(len(whole))
}
