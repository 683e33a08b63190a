// Package fresh gives memory of its own to what layers answer or keep.
package fresh

import (
	"slices"

	"rialto/api"
)

// List is a list of which each one is made anew.
func List[T any](l []T, anew func(one T) T) []T {
	var all []T
	for _, one := range l {
		all = append(all, anew(one))
	}
	return all
}

func Answer(a api.Answer) api.Answer {
	a.Amounts = slices.Clone(a.Amounts)
	a.Fills = slices.Clone(a.Fills)
	return a
}

func Cell(c api.Cell) api.Cell {
	c.Account.Free = slices.Clone(c.Account.Free)
	c.Lane.Bids = slices.Clone(c.Lane.Bids)
	c.Lane.Asks = slices.Clone(c.Lane.Asks)
	c.Lane.Owed = slices.Clone(c.Lane.Owed)
	return c
}
