// Package pack is layer 1, numbers and texts as bytes: see shared/doc/01-pack.md.
package pack

import (
	"strings"

	"rialto/api"
)

const (
	groupBits = 7
	more      = 1 << groupBits // stands in each byte of a number but the last
	maxGroups = 10             // as many as the 64 bits of a number need
	topGroup  = 1              // the greatest tenth group: nine of them leave one bit
)

// Uint, Int, Text and List write a number, a number with a sign, a text, a list of texts.
func Uint(n uint64) string {
	var form [maxGroups]byte
	last := 0
	for n >= more {
		form[last] = byte(n) | more
		n >>= groupBits
		last++
	}
	form[last] = byte(n)
	return string(form[:last+1])
}

func Int(n int64) string { return Uint(fold(n)) }

func Text(s string) (string, api.Errno) {
	if len(s) > api.MaxPiece {
		return "", api.ErrLong
	}
	return Uint(uint64(len(s))) + s, api.OK
}

func List(l []string) (string, api.Errno) {
	if len(l) > api.MaxItems {
		return "", api.ErrLong
	}
	var form strings.Builder
	form.WriteString(Uint(uint64(len(l))))
	for _, s := range l {
		text, e := Text(s)
		if e != api.OK {
			return "", e
		}
		form.WriteString(text)
	}
	return form.String(), api.OK
}

// TakeUint, TakeInt, TakeText and TakeList read one that begins at a place; and the place behind it.
func TakeUint(s string, at int) (uint64, int, api.Errno) {
	if at < 0 || at > len(s) {
		return 0, 0, api.ErrArg
	}
	var n uint64
	for i := range maxGroups {
		if at == len(s) {
			return 0, 0, api.ErrPackCut
		}
		b := s[at]
		at++
		n |= uint64(b%more) << (groupBits * i)
		if b < more {
			if !endsNumber(i, b) {
				return 0, 0, api.ErrPackForm
			}
			return n, at, api.OK
		}
	}
	return 0, 0, api.ErrPackForm
}

func TakeInt(s string, at int) (int64, int, api.Errno) {
	n, end, e := TakeUint(s, at)
	return unfold(n), end, e
}

func TakeText(s string, at int) (string, int, api.Errno) {
	text := ""
	end, e := takeCounted(s, at, api.MaxPiece, func(size, from int) (int, api.Errno) {
		if size > len(s)-from {
			return 0, api.ErrPackCut
		}
		text = strings.Clone(s[from : from+size])
		return from + size, api.OK
	})
	return text, end, e
}

func TakeList(s string, at int) ([]string, int, api.Errno) {
	var texts []string
	end, e := takeCounted(s, at, api.MaxItems, func(count, from int) (int, api.Errno) {
		for range count {
			text, next, e := TakeText(s, from)
			if e != api.OK {
				return 0, e
			}
			texts = append(texts, text)
			from = next
		}
		return from, api.OK
	})
	if e != api.OK {
		return nil, 0, e
	}
	return texts, end, api.OK
}

// endsNumber: a last group of 0 is one too much, unless it is the only one; and the tenth has room for one bit.
func endsNumber(i int, group byte) bool {
	if i == 0 {
		return true
	}
	return group != 0 && (i < maxGroups-1 || group <= topGroup)
}

// takeCounted reads how many there are, and leaves it to rest to take these, so that texts and lists are refused by one rule.
func takeCounted(s string, at int, most uint64, rest func(count, from int) (int, api.Errno)) (int, api.Errno) {
	count, from, e := TakeUint(s, at)
	if e != api.OK {
		return 0, e
	}
	if count > most {
		return 0, api.ErrPackForm
	}
	return rest(int(count), from)
}

// fold lays the sign into the lowest bit, so that numbers near 0 stay short on both sides; the sign's bits, shifted down, turn all others.
func fold(n int64) uint64 { return uint64(n)<<1 ^ uint64(n>>63) }

func unfold(n uint64) int64 { return int64(n>>1) ^ -int64(n&1) }
