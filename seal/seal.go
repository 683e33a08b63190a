// Package seal is layer 2, frames with a sum: see shared/doc/02-seal.md.
package seal

import (
	"strings"

	"rialto/api"
)

const (
	wordSize = 4            // bytes of a length, and of a sum
	headSize = 2 * wordSize // both of them, ahead of the text
)

// Sum is a text's sum: that of the steps, beside which the table's stands.
func Sum(s string) uint32 {
	sum := sumOf(s)
	if quick := table.sum(s); quick == sum {
		return quick
	}
	return sum
}

// Frame puts a text into a frame, Unframe takes one out of the frame that begins at a place; and the place behind it.
func Frame(s string) (string, api.Errno) {
	if len(s) > api.MaxFrame {
		return "", api.ErrLong
	}
	length := word(uint32(len(s)))
	return length + word(sumOf(length, s)) + s, api.OK
}

func Unframe(s string, at int) (string, int, api.Errno) {
	if at < 0 || at > len(s) {
		return "", 0, api.ErrArg
	}
	take := pieces(s, at)
	head, ok := take(headSize)
	if !ok {
		return "", 0, api.ErrSealCut
	}
	length, sum := head[:wordSize], head[wordSize:]
	size := number(length)
	if size > api.MaxFrame {
		return "", 0, api.ErrSealLong
	}
	text, ok := take(int(size))
	if !ok {
		return "", 0, api.ErrSealCut
	}
	if number(sum) != sumOf(length, text) {
		return "", 0, api.ErrSealSum
	}
	return strings.Clone(text), at + headSize + len(text), api.OK
}

// Frames takes all out of the frames that stand at the beginning, one behind the other; and how many bytes these are.
func Frames(s string) ([]string, int) {
	var texts []string
	at := 0
	for {
		text, next, e := Unframe(s, at)
		if e != api.OK {
			return texts, at
		}
		texts = append(texts, text)
		at = next
	}
}

// pieces answers a function that cuts the next bytes off, so that no place behind a cut is worked out twice; false: there are fewer.
func pieces(s string, at int) func(size int) (string, bool) {
	return func(size int) (string, bool) {
		if size > len(s)-at {
			return "", false
		}
		piece := s[at : at+size]
		at += size
		return piece, true
	}
}

// word writes a number with its highest eight bits first, number reads one.
func word(n uint32) string {
	return string([]byte{byte(n >> 24), byte(n >> 16), byte(n >> 8), byte(n)})
}

func number(w string) uint32 {
	var n uint32
	for i := range wordSize {
		n = n<<8 | uint32(w[i])
	}
	return n
}
