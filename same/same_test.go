package same_test

import (
	"reflect"
	"testing"

	"rialto/api"
	"rialto/fresh"
	"rialto/same"
)

// fill gives each number of a value another one, and each list two.
func fill(v reflect.Value, n *int) {
	switch v.Kind() {
	case reflect.Int:
		*n++
		v.SetInt(int64(*n))
	case reflect.Slice:
		v.Set(reflect.MakeSlice(v.Type(), 2, 3))
		for i := range v.Len() {
			fill(v.Index(i), n)
		}
	case reflect.Struct:
		for i := range v.NumField() {
			fill(v.Field(i), n)
		}
	}
}

// turned turns each number and bool in its turn, and each list's end, and turns it back.
func turned(v reflect.Value, look func()) {
	was := reflect.New(v.Type()).Elem()
	was.Set(v)
	switch v.Kind() {
	case reflect.Int:
		v.SetInt(v.Int() + 1)
		look()
	case reflect.Bool:
		v.SetBool(!v.Bool())
		look()
	case reflect.Slice:
		for i := range v.Len() {
			turned(v.Index(i), look)
		}
		v.Set(was.Slice(0, 1))
		look()
		v.SetZero()
		look()
		v.Set(reflect.Append(was.Slice3(0, 2, 2), reflect.Zero(v.Type().Elem())))
		look()
	case reflect.Struct:
		for i := range v.NumField() {
			turned(v.Field(i), look)
		}
	}
	v.Set(was)
}

// emptied lets all lists be empty; nil they are or not.
func emptied(v reflect.Value, isNil bool) {
	switch v.Kind() {
	case reflect.Slice:
		v.SetZero()
		if !isNil {
			v.Set(reflect.MakeSlice(v.Type(), 0, 3))
		}
	case reflect.Struct:
		for i := range v.NumField() {
			emptied(v.Field(i), isNil)
		}
	}
}

func TestShard(t *testing.T) {
	var a api.Shard
	n := 0
	fill(reflect.ValueOf(&a).Elem(), &n)
	b := fresh.Shard(a)
	if !same.Shard(a, b) {
		t.Fatalf("it is not the same as %+v", a)
	}
	looked := 0
	turned(reflect.ValueOf(&b).Elem(), func() {
		looked++
		if same.Shard(a, b) || same.Shard(b, a) {
			t.Errorf("it is the same as %+v", b)
		}
	})
	if !same.Shard(a, b) || looked < 300 {
		t.Errorf("%d were turned", looked)
	}
}

func TestEmpty(t *testing.T) {
	var a api.Shard
	n := 0
	fill(reflect.ValueOf(&a).Elem(), &n)
	none, empty := a, a
	emptied(reflect.ValueOf(&none).Elem(), true)
	emptied(reflect.ValueOf(&empty).Elem(), false)
	if !same.Shard(none, empty) || !same.Shard(empty, none) || same.Shard(a, none) {
		t.Error("lists without elements are alike")
	}
	one := api.Shard{Part: api.Part{Cells: []api.Cell{{}}}}
	other := api.Shard{Part: api.Part{Cells: []api.Cell{{Account: api.Account{Free: []api.Amount{}}, Lane: api.Lane{Bids: []api.Order{}}}}}}
	if !same.Shard(one, other) {
		t.Error("lists without elements are alike, in lists too")
	}
}
