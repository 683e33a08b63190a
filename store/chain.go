package store

import (
	"strings"

	"rialto/api"
	"rialto/seal"
)

// chain is what a segment's records make of nothing: for how many that were put they stand, and where the last whole one ends.
type chain struct {
	kept  kept
	count int64
	end   int
}

// chainOf reads a segment up to where it is torn; false: no store wrote it.
func chainOf(bytes string) (chain, bool) {
	var c chain
	var text strings.Builder
	at := 0
	for {
		part, next, e := seal.Unframe(bytes, at)
		if e != api.OK {
			return c, true
		}
		if part == "" || part[0] > flagLast {
			return chain{}, false
		}
		at = next
		text.WriteString(part[flagSize:])
		if part[0] == flagMore {
			continue
		}
		if !c.take(text.String()) {
			return chain{}, false
		}
		c.end = at
		text.Reset()
	}
}

// take goes on by the record that a text says; false: it says none that fits.
func (c *chain) take(text string) bool {
	r, ok := recordIn(text)
	if !ok || !r.fits(c.kept) {
		return false
	}
	c.kept = r.turn(c.kept)
	c.count += r.stands()
	return true
}
