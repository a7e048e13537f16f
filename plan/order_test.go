package plan_test

import (
	"slices"
	"testing"

	"mason/api"
	"mason/plan"
	"mason/resource"
)

// dice gives numbers that look thrown, and are the same in every run.
type dice uint64

func (d *dice) below(n int) int {
	*d = *d*6364136223846793005 + 1442695040888963407
	return int(*d>>33) % n
}

var names = []string{"a", "b", "c", "d", "e", "f"}

// thrown is resources that are whole: each needs only such as stand behind it in a thrown row.
func thrown(d *dice) []api.Resource {
	row := slices.Clone(names)
	for i := range row {
		j := d.below(i + 1)
		row[i], row[j] = row[j], row[i]
	}
	row = row[:d.below(len(row)+1)]
	var l []api.Resource
	for i, name := range row {
		r := api.Resource{ID: id(name)}
		if n := d.below(3); n > 0 {
			r.Attrs = []api.Attr{{Name: "x", Number: n}}
		}
		for _, other := range names {
			if slices.Contains(row[i+1:], other) && d.below(3) == 0 {
				r.After = append(r.After, id(other))
			}
		}
		l = append(l, r)
	}
	slices.SortFunc(l, func(a, b api.Resource) int { return int(a.ID.Name[0]) - int(b.ID.Name[0]) })
	return l
}

func find(l []api.Resource, want api.ID) (api.Resource, bool) {
	i := slices.IndexFunc(l, func(r api.Resource) bool { return r.ID == want })
	if i < 0 {
		return api.Resource{}, false
	}
	return l[i], true
}

// waits tells whether one waits for another, by following every After.
func waits(l []api.Resource, from, to api.ID) bool {
	r, _ := find(l, from)
	return slices.ContainsFunc(r.After, func(next api.ID) bool { return next == to || waits(l, next, to) })
}

// expected is the steps by the words of the document, looked for anew at each step.
func expected(have, want []api.Resource) []api.Step {
	var makes, deletes, l []api.Step
	for _, r := range want {
		if old, there := find(have, r.ID); !there {
			makes = append(makes, api.Step{Op: api.Create, Resource: r})
		} else if !resource.Same(old, r) {
			makes = append(makes, api.Step{Op: api.Update, Resource: r})
		}
	}
	for _, r := range have {
		if _, there := find(want, r.ID); !there {
			deletes = append(deletes, api.Step{Op: api.Delete, Resource: r})
		}
	}
	for len(makes) > 0 {
		i := slices.IndexFunc(makes, func(s api.Step) bool {
			return !slices.ContainsFunc(makes, func(o api.Step) bool { return waits(want, s.Resource.ID, o.Resource.ID) })
		})
		l = append(l, makes[i])
		makes = slices.Delete(makes, i, i+1)
	}
	for len(deletes) > 0 {
		i := slices.IndexFunc(deletes, func(s api.Step) bool {
			return !slices.ContainsFunc(deletes, func(o api.Step) bool { return slices.Contains(o.Resource.After, s.Resource.ID) })
		})
		l = append(l, deletes[i])
		deletes = slices.Delete(deletes, i, i+1)
	}
	return l
}

func TestOrder(t *testing.T) {
	var d dice
	for range 5000 {
		have, want := thrown(&d), thrown(&d)
		l, errno := plan.Steps(have, want)
		steps := expected(have, want)
		same := slices.EqualFunc(l, steps, func(a, b api.Step) bool {
			return a.Op == b.Op && resource.Same(a.Resource, b.Resource)
		})
		if errno != api.OK || !same {
			t.Fatalf("Steps(%+v, %+v) = %s, %d, want %s", have, want, told(l), errno, told(steps))
		}
		checkWorld(t, have, want, l)
	}
}

// checkWorld does the steps: nothing is there without its After, and in the end it is as wanted.
func checkWorld(t *testing.T, have, want []api.Resource, l []api.Step) {
	t.Helper()
	world := map[api.ID]api.Resource{}
	for _, r := range have {
		world[r.ID] = r
	}
	for _, s := range l {
		if s.Op == api.Delete {
			delete(world, s.Resource.ID)
		} else {
			world[s.Resource.ID] = s.Resource
		}
		for _, r := range world {
			for _, after := range r.After {
				if _, there := world[after]; !there {
					t.Fatalf("from %+v to %+v, at %+v: %v is there without %v", have, want, s, r.ID, after)
				}
			}
		}
	}
	for _, r := range want {
		if !resource.Same(world[r.ID], r) {
			t.Fatalf("from %+v to %+v: %+v is there", have, want, world[r.ID])
		}
	}
	if len(world) != len(want) {
		t.Fatalf("from %+v to %+v: there are %d", have, want, len(world))
	}
}
