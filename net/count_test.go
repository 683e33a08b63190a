package net

import (
	"maps"
	"strconv"
	"testing"

	"rialto/api"
)

// TestCountsOfTheRow holds what is counted against the row: of a packet that is gone nothing is kept.
func TestCountsOfTheRow(t *testing.T) {
	n, _ := New(30)
	for i := range 300 {
		n.Send(api.Packet{From: 1, To: 2, Text: strconv.Itoa(i / 2)})
		if i%3 == 0 {
			n.Double(len(n.row) / 2)
		}
		if i%2 == 0 {
			n.Take(i % len(n.row))
		}
		there := map[api.Packet]int{}
		for _, p := range n.row {
			there[p]++
		}
		if !maps.Equal(n.there, there) {
			t.Fatalf("P5.3: counted are %v, in the row are %v", n.there, there)
		}
	}
	for n.Len() > 0 {
		n.Take(0)
	}
	if len(n.there) != 0 {
		t.Errorf("P5.3: none is there, counted are %v", n.there)
	}
}
