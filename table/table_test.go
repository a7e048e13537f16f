package table_test

import (
	"cmp"
	"slices"
	"strings"
	"testing"

	"mason/table"
)

func TestEmpty(t *testing.T) {
	e := table.New[string, int](strings.Compare)
	if e.Len() != 0 || e.Has("") || e.Keys() != nil || e.Values() != nil {
		t.Errorf("an empty table: %d, %v, %v, %v", e.Len(), e.Has(""), e.Keys(), e.Values())
	}
}

func TestPut(t *testing.T) {
	e := table.New[string, int](strings.Compare)
	for i, key := range []string{"m", "z", "a", "b", "z", "Z", "m"} {
		e.Put(key, i)
	}
	if !slices.Equal(e.Keys(), []string{"Z", "a", "b", "m", "z"}) || !slices.Equal(e.Values(), []int{5, 2, 3, 6, 4}) || e.Len() != 5 {
		t.Errorf("the table has %v, %v", e.Keys(), e.Values())
	}
	for _, key := range []string{"", "A", "c", "zz"} {
		if e.Has(key) {
			t.Errorf("the table has %q", key)
		}
	}
	if !e.Has("Z") || !e.Has("b") || !e.Has("z") {
		t.Error("the table has not what was put into it")
	}
}

func TestOrderOfCompare(t *testing.T) {
	e := table.New[int, string](func(a, b int) int { return cmp.Compare(b, a) })
	for _, key := range []int{2, 3, 1} {
		e.Put(key, strings.Repeat("x", key))
	}
	if !slices.Equal(e.Keys(), []int{3, 2, 1}) || !slices.Equal(e.Values(), []string{"xxx", "xx", "x"}) {
		t.Errorf("the table has %v, %v", e.Keys(), e.Values())
	}
}

func TestAllMayBeLeft(t *testing.T) {
	e := table.New[int, int](cmp.Compare[int])
	for i := range 5 {
		e.Put(i, i*i)
	}
	sum := 0
	for key, value := range e.All() {
		if key == 3 {
			break
		}
		sum += value
	}
	if sum != 0+1+4 {
		t.Errorf("the values up to 3 are %d together", sum)
	}
}

func TestListsAreNew(t *testing.T) {
	e := table.New[int, int](cmp.Compare[int])
	e.Put(1, 10)
	e.Put(2, 20)
	clear(e.Keys())
	clear(e.Values())
	if !slices.Equal(e.Keys(), []int{1, 2}) || !slices.Equal(e.Values(), []int{10, 20}) {
		t.Errorf("the table has %v, %v", e.Keys(), e.Values())
	}
}

func TestGet(t *testing.T) {
	e := table.New[string, int](strings.Compare)
	e.Put("b", 2)
	e.Put("d", 4)
	for key, want := range map[string]int{"a": 0, "b": 2, "c": 0, "d": 4, "e": 0} {
		if n, there := e.Get(key); n != want || there != (want != 0) {
			t.Errorf("Get(%q) = %d, %v", key, n, there)
		}
	}
	if !slices.Equal(e.Keys(), []string{"b", "d"}) {
		t.Errorf("the table has %v", e.Keys())
	}
}

func TestTake(t *testing.T) {
	e := table.New[string, int](strings.Compare)
	for i, key := range []string{"a", "b", "c", "d"} {
		e.Put(key, i+1)
	}
	for _, c := range []struct {
		key  string
		want int
		left []string
	}{{"b", 2, []string{"a", "c", "d"}}, {"b", 0, []string{"a", "c", "d"}}, {"d", 4, []string{"a", "c"}}, {"z", 0, []string{"a", "c"}}, {"a", 1, []string{"c"}}, {"c", 3, nil}, {"c", 0, nil}} {
		if n, there := e.Take(c.key); n != c.want || there != (c.want != 0) || !slices.Equal(e.Keys(), c.left) || e.Len() != len(c.left) {
			t.Errorf("Take(%q) = %d, %v, and %v are left", c.key, n, there, e.Keys())
		}
	}
}

func TestCopy(t *testing.T) {
	e := table.New[string, int](strings.Compare)
	e.Put("b", 1)
	c := e.Copy()
	e.Put("b", 2)
	e.Put("a", 3)
	c.Put("c", 4)
	if !slices.Equal(e.Keys(), []string{"a", "b"}) || !slices.Equal(e.Values(), []int{3, 2}) {
		t.Errorf("the table has %v, %v", e.Keys(), e.Values())
	}
	if !slices.Equal(c.Keys(), []string{"b", "c"}) || !slices.Equal(c.Values(), []int{1, 4}) {
		t.Errorf("its copy has %v, %v", c.Keys(), c.Values())
	}
}
