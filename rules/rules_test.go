package rules_test

import (
	"slices"
	"strings"
	"testing"

	"mason/api"
	"mason/rules"
)

func id(kind, name string) api.ID { return api.ID{Kind: kind, Name: name} }

func TestIsWord(t *testing.T) {
	for _, s := range []string{"a", "z", "A", "Z", "a0", "a9", "a-", "a_", "after", strings.Repeat("w", api.MaxWord)} {
		if !rules.IsWord(s) {
			t.Errorf("%q is no word", s)
		}
	}
	for _, s := range []string{"", "0", "9a", "-a", "_a", "@", "[", "`", "{", "a/", "a:", "a b", "a.", "a\n", "é", "aé", "a\x00", strings.Repeat("w", api.MaxWord+1)} {
		if rules.IsWord(s) {
			t.Errorf("%q is a word", s)
		}
	}
}

func TestIsString(t *testing.T) {
	for i := range 256 {
		want := 32 <= i && i <= 126 || i == 10
		if rules.IsString("a"+string([]byte{byte(i)})) != want {
			t.Errorf("a string with the byte %d: want %v", i, want)
		}
	}
	if !rules.IsString("") || !rules.IsString(strings.Repeat("\"", api.MaxString)) || rules.IsString(strings.Repeat("\"", api.MaxString+1)) {
		t.Error("a string that is as long as may be is none, or one that is longer is one")
	}
}

func TestCompareIDs(t *testing.T) {
	rising := []api.ID{id("A", "z"), id("a", "B"), id("a", "a"), id("a", "aa"), id("a", "b"), id("aa", "a"), id("b", "A")}
	for i, a := range rising {
		for j, b := range rising {
			if c := rules.CompareIDs(a, b); c < 0 != (i < j) || c > 0 != (i > j) {
				t.Errorf("CompareIDs(%v, %v) = %d", a, b, c)
			}
		}
	}
}

func TestWaitsForItself(t *testing.T) {
	spare := []api.ID{id("k", "b"), id("k", "keep")}
	l := []api.Resource{
		{ID: id("k", "a"), After: spare[:1]},
		{ID: id("k", "b"), After: []api.ID{id("k", "c"), id("k", "d")}},
		{ID: id("k", "c"), After: []api.ID{id("k", "b")}},
		{ID: id("k", "d")},
		{ID: id("k", "e"), After: []api.ID{id("k", "e")}},
		{ID: id("k", "f"), After: []api.ID{id("k", "none")}},
	}
	var found []string
	for _, r := range l {
		if rules.WaitsForItself(l, r.ID) {
			found = append(found, r.ID.Name)
		}
	}
	if !slices.Equal(found, []string{"b", "c", "e"}) {
		t.Errorf("those that wait for themselves: %v", found)
	}
	if rules.WaitsForItself(l, id("k", "none")) || rules.WaitsForItself(nil, id("k", "a")) {
		t.Error("what is not there waits for itself")
	}
	if spare[1] != id("k", "keep") {
		t.Errorf("what was handed in was written into: %v", spare)
	}
}

func TestWaits(t *testing.T) {
	l := []api.Resource{
		{ID: id("k", "a"), After: []api.ID{id("k", "b"), id("k", "e")}},
		{ID: id("k", "b"), After: []api.ID{id("k", "c")}},
		{ID: id("k", "c")},
		{ID: id("k", "d"), After: []api.ID{id("k", "a")}},
		{ID: id("k", "e")},
	}
	waits := map[string]string{"a": "bce", "b": "c", "c": "", "d": "abce", "e": "", "none": ""}
	for name, want := range waits {
		for _, other := range []string{"a", "b", "c", "d", "e"} {
			got := rules.Waits(l, id("k", name), func(x api.ID) bool { return x == id("k", other) })
			if got != strings.Contains(want, other) {
				t.Errorf("%s waits for %s: %v", name, other, got)
			}
		}
	}
}

func TestAreWhole(t *testing.T) {
	a, b, c := id("k", "a"), id("k", "b"), id("k", "c")
	for _, l := range [][]api.Resource{
		nil, {}, {{ID: a}}, {{ID: a, After: []api.ID{b}}, {ID: b}}, {{ID: a}, {ID: b, After: []api.ID{a}}},
		{{ID: a, After: []api.ID{b, c}}, {ID: b, After: []api.ID{c}}, {ID: c}},
	} {
		if !rules.AreWhole(l) {
			t.Errorf("%v are not whole", l)
		}
	}
	for _, l := range [][]api.Resource{
		{{}}, {{ID: b}, {ID: a}}, {{ID: a}, {ID: a}},
		{{ID: a, After: []api.ID{b}}}, {{ID: a, After: []api.ID{b, c}}, {ID: b}}, {{ID: a, After: []api.ID{b, c}}, {ID: c}}, {{ID: a}, {ID: b, After: []api.ID{c}}},
		{{ID: a, After: []api.ID{id("l", "b")}}, {ID: b}}, {{ID: a, After: []api.ID{id("k", "bb")}}, {ID: b}},
		{{ID: a, After: []api.ID{a}}}, {{ID: a, After: []api.ID{b}}, {ID: b, After: []api.ID{a}}},
		{{ID: a}, {ID: b, After: []api.ID{c}}, {ID: c, After: []api.ID{b}}},
		{{ID: a, After: []api.ID{b}}, {ID: b, After: []api.ID{c}}, {ID: c, After: []api.ID{a}}},
	} {
		if rules.AreWhole(l) {
			t.Errorf("%v are whole", l)
		}
	}
}
