package fresh_test

import (
	"cmp"
	"reflect"
	"slices"
	"testing"

	"rialto/api"
	"rialto/fresh"
)

// fill gives each number of a value another one, and each list two.
func fill(v reflect.Value, n *int) {
	switch v.Kind() {
	case reflect.Int:
		*n++
		v.SetInt(int64(*n))
	case reflect.Bool:
		v.SetBool(true)
	case reflect.Slice:
		v.Set(reflect.MakeSlice(v.Type(), 2, 3))
		for i := range v.Len() {
			fill(v.Index(i), n)
		}
	case reflect.Struct:
		for i := range v.NumField() {
			fill(v.Field(i), n)
		}
	}
}

// span is the memory of a list, its spare room too.
type span struct{ from, to uintptr }

func spans(v reflect.Value) []span {
	var l []span
	switch v.Kind() {
	case reflect.Slice:
		if size := uintptr(v.Cap()) * v.Type().Elem().Size(); size > 0 {
			l = append(l, span{v.Pointer(), v.Pointer() + size})
		}
		for i := range v.Len() {
			l = append(l, spans(v.Index(i))...)
		}
	case reflect.Struct:
		for i := range v.NumField() {
			l = append(l, spans(v.Field(i))...)
		}
	}
	return l
}

// hold makes a value anew: it has all that was there, in memory of its own.
func hold[T any](t *testing.T, anew func(one T) T) {
	t.Helper()
	var was T
	n := 0
	fill(reflect.ValueOf(&was).Elem(), &n)
	is := anew(was)
	if !reflect.DeepEqual(is, was) {
		t.Errorf("%+v of %+v", is, was)
	}
	l := append(spans(reflect.ValueOf(was)), spans(reflect.ValueOf(is))...)
	slices.SortFunc(l, func(a, b span) int { return cmp.Compare(a.from, b.from) })
	for i := 1; i < len(l); i++ {
		if l[i].from < l[i-1].to {
			t.Fatalf("R5: two lists share memory in %T", was)
		}
	}
	var zero T
	if none := anew(zero); !reflect.DeepEqual(none, zero) {
		t.Errorf("%+v of nothing", none)
	}
}

func TestAll(t *testing.T) {
	hold(t, fresh.Answer)
	hold(t, fresh.Account)
	hold(t, fresh.Lane)
	hold(t, fresh.Cell)
	hold(t, fresh.Message)
	hold(t, fresh.Event)
	hold(t, fresh.Session)
	hold(t, fresh.Part)
	hold(t, fresh.Coord)
	hold(t, fresh.Shard)
	hold(t, fresh.Model)
	hold(t, func(l []api.Cell) []api.Cell { return fresh.List(l, fresh.Cell) })
}
