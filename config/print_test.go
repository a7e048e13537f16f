package config_test

import (
	"math"
	"slices"
	"strconv"
	"strings"
	"testing"

	"mason/api"
	"mason/config"
)

// checkPrinted sees whether resources, printed, are read as they were.
func checkPrinted(t *testing.T, l []api.Resource) {
	t.Helper()
	s, e := config.Print(l)
	if e != api.OK {
		t.Fatalf("Print(%v) = %q, %d", l, s, e)
	}
	if again, e, at := config.Parse(s); !same(again, l) || e != api.OK {
		t.Fatalf("Parse(%q) = %v, %d, %d, want %v", s, again, e, at, l)
	}
}

func TestPrint(t *testing.T) {
	parsed, _, _ := config.Parse(example)
	for _, c := range []struct {
		l    []api.Resource
		want string
	}{
		{nil, ""},
		{[]api.Resource{}, ""},
		{parsed, "resource net b {\n}\nresource vm a {\n  name = \"x\\ny\"\n  size = 3\n  after = [net.b]\n}\n"},
		{[]api.Resource{{ID: id("a", "b"), Attrs: []api.Attr{}, After: []api.ID{}}}, "resource a b {\n}\n"},
		{[]api.Resource{{ID: id("after", "resource"), Attrs: []api.Attr{number("resource", 0)}}}, "resource after resource {\n  resource = 0\n}\n"},
		{[]api.Resource{{ID: id("a", "b"), Attrs: []api.Attr{number("m", -7), number("n", 10), number("o", 0), text("p", ""), text("q", " ~#"), text("r", "a\\b\"c\nd")}}},
			"resource a b {\n  m = -7\n  n = 10\n  o = 0\n  p = \"\"\n  q = \" ~#\"\n  r = \"a\\\\b\\\"c\\nd\"\n}\n"},
		// These need not be whole: one waits for itself, and for one that is not there.
		{[]api.Resource{{ID: id("a", "b"), After: []api.ID{id("a", "b"), id("c", "d"), id("c", "e")}}}, "resource a b {\n  after = [a.b, c.d, c.e]\n}\n"},
	} {
		if s, e := config.Print(c.l); s != c.want || e != api.OK {
			t.Errorf("Print(%v) = %q, %d, want %q", c.l, s, e, c.want)
		}
	}
}

func good() api.Resource {
	return api.Resource{ID: id("k", "n"), Attrs: []api.Attr{number("m", 1), text("t", "x")}, After: []api.ID{id("c", "d"), id("c", "e")}}
}

func manyAttrs(n int) []api.Attr {
	var l []api.Attr
	for i := range n {
		l = append(l, number("x"+strconv.Itoa(i), i))
	}
	return l
}

func manyIDs(n int) []api.ID {
	var l []api.ID
	for i := range n {
		l = append(l, id("x", "y"+string(rune('a'+i))))
	}
	return l
}

// Each change leaves a resource that may be (those at a bound), or one that may not (those one beyond, and others).
func TestPrintOfOne(t *testing.T) {
	word, long := strings.Repeat("w", api.MaxWord), strings.Repeat("s", api.MaxString)
	for i, change := range []func(r *api.Resource){
		func(r *api.Resource) {}, func(r *api.Resource) { r.ID = id(word, word) }, func(r *api.Resource) { r.ID = id("Z-_9", "after") },
		func(r *api.Resource) { r.Attrs[1].Name = word }, func(r *api.Resource) { r.Attrs[0].Name = "M" }, func(r *api.Resource) { r.Attrs[0].Name = "afte" }, func(r *api.Resource) { r.Attrs[0].Name = "After" },
		func(r *api.Resource) { r.Attrs[0].Number = api.MaxNumber }, func(r *api.Resource) { r.Attrs[0].Number = -api.MaxNumber },
		func(r *api.Resource) { r.Attrs[1].Text = long }, func(r *api.Resource) { r.Attrs[1].Text = strings.Repeat("\n", api.MaxString) }, func(r *api.Resource) { r.Attrs[1].Text = " ~" },
		func(r *api.Resource) { r.Attrs = manyAttrs(api.MaxAttrs) }, func(r *api.Resource) { r.After = manyIDs(api.MaxAfter) }, func(r *api.Resource) { r.After[1] = id(word, word) },
	} {
		r := good()
		change(&r)
		if s, e := config.Print([]api.Resource{r}); s == "" || e != api.OK {
			t.Errorf("Print of what may be, the %d-th, = %q, %d", i, s, e)
		}
	}
	for i, change := range []func(r *api.Resource){
		func(r *api.Resource) { r.ID.Kind = "" }, func(r *api.Resource) { r.ID.Kind = word + "w" }, func(r *api.Resource) { r.ID.Kind = "k." }, func(r *api.Resource) { r.ID.Name = "" }, func(r *api.Resource) { r.ID.Name = "-n" }, func(r *api.Resource) { r.ID.Name = "_" }, func(r *api.Resource) { r.ID.Name = "1" }, func(r *api.Resource) { r.ID.Name = "n " }, func(r *api.Resource) { r.ID.Name = "é" }, func(r *api.Resource) { r.ID.Name = word + "w" },
		func(r *api.Resource) { r.Attrs[0].Name = "" }, func(r *api.Resource) { r.Attrs[0].Name = "m m" }, func(r *api.Resource) { r.Attrs[1].Name = word + "w" }, func(r *api.Resource) { r.Attrs[0].Name = "after" }, func(r *api.Resource) { r.Attrs[0].Name = "t" }, func(r *api.Resource) { r.Attrs[0].Name = "u" },
		func(r *api.Resource) { r.Attrs[0].Number = api.MaxNumber + 1 }, func(r *api.Resource) { r.Attrs[0].Number = -api.MaxNumber - 1 }, func(r *api.Resource) { r.Attrs[0].Number = math.MaxInt }, func(r *api.Resource) { r.Attrs[0].Number = math.MinInt }, func(r *api.Resource) { r.Attrs[0].Text = "x" },
		func(r *api.Resource) { r.Attrs[1].Text = long + "s" }, func(r *api.Resource) { r.Attrs[1].Text = strings.Repeat("\n", api.MaxString+1) }, func(r *api.Resource) { r.Attrs[1].Text = "\x1f" }, func(r *api.Resource) { r.Attrs[1].Text = "\x7f" }, func(r *api.Resource) { r.Attrs[1].Text = "\t" }, func(r *api.Resource) { r.Attrs[1].Text = "é" }, func(r *api.Resource) { r.Attrs[1].Number = 1 }, func(r *api.Resource) { r.Attrs[1].Number = -1 },
		func(r *api.Resource) { r.Attrs = manyAttrs(api.MaxAttrs + 1) }, func(r *api.Resource) { r.After = manyIDs(api.MaxAfter + 1) }, func(r *api.Resource) { r.After = make([]api.ID, 100000) },
		func(r *api.Resource) { r.After[0] = id("c", "e") }, func(r *api.Resource) { r.After[0] = id("c", "f") }, func(r *api.Resource) { r.After[0] = id("d", "a") }, func(r *api.Resource) { r.After[0].Kind = "" }, func(r *api.Resource) { r.After[1].Name = "e]" }, func(r *api.Resource) { r.After[1].Name = "e" + word },
	} {
		r := good()
		change(&r)
		for _, l := range [][]api.Resource{{r}, {{ID: id("A", "A")}, r}} {
			if s, e := config.Print(l); s != "" || e != api.ErrArg {
				t.Errorf("Print of what may not be, the %d-th, = %q, %d", i, s, e)
			}
		}
	}
}

func TestPrintOfMany(t *testing.T) {
	var l []api.Resource
	for _, id := range manyIDs(api.MaxResources + 1) {
		l = append(l, api.Resource{ID: id})
	}
	if s, e := config.Print(l[:api.MaxResources]); strings.Count(s, "\n") != 2*api.MaxResources || e != api.OK {
		t.Errorf("Print of the most resources = %q, %d", s, e)
	}
	if s, e := config.Print(l); s != "" || e != api.ErrArg {
		t.Errorf("Print of one too many = %q, %d", s, e)
	}
	for _, ids := range [][]api.ID{{id("a", "b"), id("a", "b")}, {id("a", "c"), id("a", "b")}, {id("b", "a"), id("a", "b")}, {id("a", "a"), id("c", "a"), id("b", "a")}, {id("a", "a"), id("B", "a")}} {
		var l []api.Resource
		for _, id := range ids {
			l = append(l, api.Resource{ID: id})
		}
		if s, e := config.Print(l); s != "" || e != api.ErrArg {
			t.Errorf("Print of %v = %q, %d", ids, s, e)
		}
	}
	ordered := []api.Resource{{ID: id("B", "z")}, {ID: id("a", "Z")}, {ID: id("a", "a")}, {ID: id("a", "a-")}, {ID: id("a-", "a")}, {ID: id("b", "a")}}
	checkPrinted(t, ordered)
}

// The longest of each, printed, is read as it was.
func TestPrintIsRead(t *testing.T) {
	for b := byte(32); b <= 126; b++ {
		checkPrinted(t, []api.Resource{{ID: id("a", "b"), Attrs: []api.Attr{text("x", strings.Repeat(string(b), api.MaxString))}}})
	}
	checkPrinted(t, []api.Resource{{ID: id("a", "b"), Attrs: []api.Attr{number("x", -api.MaxNumber), text("y", "\n\\n\"\n"), number("z", api.MaxNumber)}, After: []api.ID{id("a", "c")}}, {ID: id("a", "c")}})
}

func TestPrintWritesIntoNothing(t *testing.T) {
	spare := []api.ID{id("c", "d"), id("c", "e"), id("z", "z")}
	r := good()
	r.After = spare[:2]
	l := []api.Resource{r, {ID: id("z", "z")}}
	was := []api.Resource{good(), {ID: id("z", "z")}}
	first, _ := config.Print(l[:1])
	if again, e := config.Print(l[:1]); again != first || e != api.OK {
		t.Errorf("Print again = %q, %d, want %q", again, e, first)
	}
	if !same(l, was) || !slices.Equal(spare, []api.ID{id("c", "d"), id("c", "e"), id("z", "z")}) {
		t.Errorf("Print wrote into what was handed in: %v, %v", l, spare)
	}
}
