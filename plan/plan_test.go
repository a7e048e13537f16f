package plan_test

import (
	"strconv"
	"strings"
	"testing"

	"mason/api"
	"mason/config"
	"mason/plan"
	"mason/resource"
)

func id(name string) api.ID { return api.ID{Kind: "k", Name: name} }

// of is the resources of a text.
func of(t *testing.T, text string) []api.Resource {
	t.Helper()
	l, errno, place := config.Parse(text)
	if errno != api.OK {
		t.Fatalf("Parse(%q): %d at %d", text, errno, place)
	}
	return l
}

// told is steps in short: the sign of each Op, and the ID.
func told(l []api.Step) string {
	var s []string
	for _, x := range l {
		s = append(s, string("?+~-"[x.Op])+x.Resource.ID.Kind+"."+x.Resource.ID.Name)
	}
	return strings.Join(s, " ")
}

func TestSteps(t *testing.T) {
	for _, c := range []struct{ have, want, steps string }{
		{"", "", ""},
		{"resource k a { x = 1 }", "resource k a { x = 1 }", ""},
		{"", "resource k a {}", "+k.a"},
		{"resource k a {}", "", "-k.a"},
		// what makes a resource another one
		{"resource k a { x = 1 }", "resource k a { x = 2 }", "~k.a"},
		{"resource k a { x = 1 }", "resource k a { y = 1 }", "~k.a"},
		{"resource k a { x = 1 }", `resource k a { x = "1" }`, "~k.a"},
		{`resource k a { x = "1" }`, `resource k a { x = "2" }`, "~k.a"},
		{`resource k a { x = "" }`, "resource k a { x = 0 }", "~k.a"},
		{"resource k a { x = 1 }", "resource k a {}", "~k.a"},
		{"resource k a {} resource k b {}", "resource k a { after = [k.b] } resource k b {}", "~k.a"},
		{"resource k a { after = [k.b] } resource k b {} resource k c {}", "resource k a { after = [k.c] } resource k b {} resource k c {}", "~k.a"},
		// the least ID first: by Kind, then Name, byte by byte
		{"", "resource k b {} resource k a {} resource j z {} resource k B {} resource k aa {}", "+j.z +k.B +k.a +k.aa +k.b"},
		{"resource k b {} resource k a {} resource j z {} resource k B {} resource k aa {}", "", "-j.z -k.B -k.a -k.aa -k.b"},
		// Creates and Updates are mixed, and Deletes come behind them
		{"resource k a {} resource k c {}", "resource k b {} resource k c { x = 1 } resource k d {}", "+k.b ~k.c +k.d -k.a"},
		// each behind those that it waits for, the least one as soon as it may
		{"", "resource k a { after = [k.d] } resource k b {} resource k c {} resource k d {}", "+k.b +k.c +k.d +k.a"},
		{"", "resource k a { after = [k.c] } resource k b { after = [k.d] } resource k c {} resource k d {}", "+k.c +k.a +k.d +k.b"},
		{"", "resource k a { after = [k.b, k.c] } resource k b {} resource k c {}", "+k.b +k.c +k.a"},
		// a waits for c through b, which is as it is wanted
		{"resource k b { after = [k.c] } resource k c {}", "resource k a { after = [k.b] } resource k b { after = [k.c] } resource k c { x = 1 }", "~k.c +k.a"},
		{"resource k a { after = [k.b] } resource k b { after = [k.c] } resource k c {}", "resource k a { after = [k.b] x = 1 } resource k b { after = [k.c] } resource k c { x = 1 }", "~k.c ~k.a"},
		// what was waited for, and what is not there any more, does not count
		{"resource k a { after = [k.b] } resource k b {}", "resource k a {} resource k b { after = [k.a] }", "~k.a ~k.b"},
		{"resource k a { after = [k.b] } resource k b {}", "resource k a {}", "~k.a -k.b"},
		// Deletes: those that need others first
		{"resource k a {} resource k b { after = [k.a] } resource k c { after = [k.b] }", "", "-k.c -k.b -k.a"},
		{"resource k a {} resource k b {} resource k c { after = [k.a] }", "", "-k.b -k.c -k.a"},
		{"resource k a {} resource k b {} resource k c { after = [k.a, k.b] }", "", "-k.c -k.a -k.b"},
		// a stands in no After of a Delete, though c needed it through b
		{"resource k a {} resource k b { after = [k.a] } resource k c { after = [k.b] }", "resource k b {}", "~k.b -k.a -k.c"},
		// example 4
		{"resource vm a { after = [net.b] } resource net b {}", "resource net c {}", "+net.c -vm.a -net.b"},
	} {
		l, errno := plan.Steps(of(t, c.have), of(t, c.want))
		if told(l) != c.steps || errno != api.OK {
			t.Errorf("Steps(%q, %q) = %s, %d, want %s", c.have, c.want, told(l), errno, c.steps)
		}
	}
}

// TestStepsTellResources: a Create and an Update as it is wanted, a Delete as it was there.
func TestStepsTellResources(t *testing.T) {
	have := of(t, `resource k a { x = 1 after = [k.b, k.c] } resource k b { y = "b" } resource k c {}`)
	want := of(t, `resource k b { y = "bb" z = -3 } resource k c { after = [k.d] } resource k d { w = 4 }`)
	l, errno := plan.Steps(have, want)
	if told(l) != "~k.b +k.d ~k.c -k.a" || errno != api.OK {
		t.Fatalf("Steps = %s, %d", told(l), errno)
	}
	for i, r := range []api.Resource{want[0], want[2], want[1], have[0]} {
		if !resource.Same(l[i].Resource, r) {
			t.Errorf("step %d has %+v, want %+v", i, l[i].Resource, r)
		}
	}
}

func numbered(n int) []api.Resource {
	var l []api.Resource
	for i := range n {
		l = append(l, api.Resource{ID: id("r" + strconv.Itoa(100+i))})
	}
	return l
}

func ids(l []api.Resource) []api.ID {
	var m []api.ID
	for _, r := range l {
		m = append(m, r.ID)
	}
	return m
}

func TestAsManyAsMayBe(t *testing.T) {
	have := numbered(api.MaxResources)
	want := numbered(api.MaxResources)
	for i := range want {
		want[i].ID.Kind = "l"
	}
	l, errno := plan.Steps(have, want)
	if len(l) != 2*api.MaxResources || errno != api.OK {
		t.Errorf("Steps = %s, %d", told(l), errno)
	}
	chain := numbered(api.MaxResources)
	for i := range api.MaxResources - 1 {
		chain[i].After = ids(chain)[i+1 : min(i+1+api.MaxAfter, api.MaxResources)]
	}
	l, errno = plan.Steps(nil, chain)
	if len(l) != api.MaxResources || errno != api.OK {
		t.Fatalf("Steps = %s, %d", told(l), errno)
	}
	for i, s := range l {
		if s.Op != api.Create || s.Resource.ID != chain[api.MaxResources-1-i].ID {
			t.Errorf("step %d is %+v", i, s)
		}
	}
}

func TestStepsOfWhatMayNotBe(t *testing.T) {
	manyAfter := numbered(api.MaxAfter + 2)
	manyAfter[0].After = ids(manyAfter[1:])
	for _, l := range [][]api.Resource{
		{{}},
		{{ID: id("9")}},
		{{ID: id("a"), Attrs: []api.Attr{{Name: "after"}}}},
		{{ID: id("a"), Attrs: []api.Attr{{Name: "x", Number: api.MaxNumber + 1}}}},
		{{ID: id("b")}, {ID: id("a")}},
		{{ID: id("a")}, {ID: id("a")}},
		numbered(api.MaxResources + 1),
		manyAfter,
		{{ID: id("a"), After: []api.ID{id("b")}}},
		{{ID: id("a"), After: []api.ID{id("a")}}},
		{{ID: id("a"), After: []api.ID{id("b")}}, {ID: id("b"), After: []api.ID{id("a")}}},
	} {
		for _, other := range [][]api.Resource{nil, {{ID: id("a")}}, l} {
			if s, errno := plan.Steps(l, other); s != nil || errno != api.ErrArg {
				t.Errorf("Steps(%+v, %+v) = %v, %d", l, other, s, errno)
			}
			if s, errno := plan.Steps(other, l); s != nil || errno != api.ErrArg {
				t.Errorf("Steps(%+v, %+v) = %v, %d", other, l, s, errno)
			}
		}
	}
}

func TestEmptyListsAreNil(t *testing.T) {
	have := []api.Resource{{ID: id("a"), Attrs: []api.Attr{}, After: []api.ID{}}}
	if l, errno := plan.Steps(have, []api.Resource{{ID: id("a")}}); len(l) != 0 || errno != api.OK {
		t.Errorf("Steps = %s, %d", told(l), errno)
	}
	if l, errno := plan.Steps([]api.Resource{}, nil); len(l) != 0 || errno != api.OK {
		t.Errorf("Steps = %s, %d", told(l), errno)
	}
}

// TestStepsAreNewMemory: what came out may be written into, and nothing else changes by it.
func TestStepsAreNewMemory(t *testing.T) {
	haveText := "resource k a { x = 1 y = 2 after = [k.c] } resource k c {}"
	wantText := "resource k b { x = 3 after = [k.c] } resource k c { x = 4 after = [k.d] } resource k d { x = 5 y = 6 }"
	have, want := of(t, haveText), of(t, wantText)
	l, _ := plan.Steps(have, want)
	again, _ := plan.Steps(have, want)
	for i := range l {
		if !resource.Same(l[i].Resource, again[i].Resource) {
			t.Errorf("what was written into other lists is seen in %+v", l[i])
		}
		clear(l[i].Resource.Attrs)
		clear(l[i].Resource.After)
		clear(append(l[i].Resource.Attrs, api.Attr{Name: "spare"}))
		clear(append(l[i].Resource.After, id("spare")))
	}
	for i, r := range of(t, haveText) {
		if !resource.Same(r, have[i]) {
			t.Errorf("have was written into: %+v", have[i])
		}
	}
	for i, r := range of(t, wantText) {
		if !resource.Same(r, want[i]) {
			t.Errorf("want was written into: %+v", want[i])
		}
	}
}
