package list_test

import (
	"cmp"
	"slices"
	"testing"

	"mason/list"
)

func odd(n int) bool { return n%2 != 0 }

func TestFind(t *testing.T) {
	if n, found := list.Find([]int{2, 4, 5, 7}, odd); n != 5 || !found {
		t.Errorf("Find = %d, %v", n, found)
	}
	for _, l := range [][]int{nil, {2}, {2, 4}} {
		if n, found := list.Find(l, odd); n != 0 || found {
			t.Errorf("Find in %v = %d, %v", l, n, found)
		}
	}
}

func TestEvery(t *testing.T) {
	for _, l := range [][]int{nil, {1}, {1, 3, 5}} {
		if !list.Every(l, odd) {
			t.Errorf("not every one of %v", l)
		}
	}
	for _, l := range [][]int{{2}, {2, 1}, {1, 2}, {1, 2, 3}} {
		if list.Every(l, odd) {
			t.Errorf("every one of %v", l)
		}
	}
}

func TestRises(t *testing.T) {
	for _, l := range [][]int{nil, {1}, {1, 2}, {-5, 0, 7}} {
		if !list.Rises(l, cmp.Compare[int]) {
			t.Errorf("%v does not rise", l)
		}
	}
	for _, l := range [][]int{{1, 1}, {2, 1}, {1, 2, 2}, {1, 3, 2}, {2, 1, 3}} {
		if list.Rises(l, cmp.Compare[int]) {
			t.Errorf("%v rises", l)
		}
	}
}

func TestCopy(t *testing.T) {
	if list.Copy([]int(nil)) != nil || list.Copy([]int{}) != nil {
		t.Error("a copy of nothing is not nil")
	}
	room := []int{1, 2, 3}
	c := list.Copy(room[:2])
	if !slices.Equal(c, []int{1, 2}) {
		t.Errorf("Copy = %v", c)
	}
	c[0] = 9
	_ = append(c, 9)
	if !slices.Equal(room, []int{1, 2, 3}) {
		t.Errorf("the copy shares room: %v", room)
	}
}

func TestMap(t *testing.T) {
	if list.Map(nil, odd) != nil || list.Map([]int{}, odd) != nil {
		t.Error("what nothing becomes is not nil")
	}
	if l := list.Map([]int{1, 2, 3, 3}, odd); !slices.Equal(l, []bool{true, false, true, true}) {
		t.Errorf("Map = %v", l)
	}
}
