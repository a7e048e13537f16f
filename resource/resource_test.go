package resource_test

import (
	"testing"

	"mason/api"
	"mason/resource"
)

func sample() api.Resource {
	return api.Resource{
		ID:    api.ID{Kind: "vm", Name: "a"},
		Attrs: []api.Attr{{Name: "n", Number: 1}, {Name: "t", IsText: true, Text: "x"}},
		After: []api.ID{{Kind: "net", Name: "b"}, {Kind: "net", Name: "c"}},
	}
}

func TestSame(t *testing.T) {
	if !resource.Same(sample(), sample()) {
		t.Error("what is the same is not")
	}
	if !resource.Same(api.Resource{Attrs: []api.Attr{}, After: []api.ID{}}, api.Resource{}) {
		t.Error("lists without elements are not the same")
	}
	for i, change := range []func(*api.Resource){
		func(r *api.Resource) { r.ID.Kind = "v" },
		func(r *api.Resource) { r.ID.Name = "b" },
		func(r *api.Resource) { r.Attrs[0].Name = "m" },
		func(r *api.Resource) { r.Attrs[0].Number = 2 },
		func(r *api.Resource) { r.Attrs[1].Text = "y" },
		func(r *api.Resource) { r.Attrs[1].IsText = false },
		func(r *api.Resource) { r.Attrs = r.Attrs[:1] },
		func(r *api.Resource) { r.After[1].Name = "d" },
		func(r *api.Resource) { r.After = r.After[:1] },
		func(r *api.Resource) { r.After = nil },
	} {
		r := sample()
		change(&r)
		if resource.Same(r, sample()) || resource.Same(sample(), r) {
			t.Errorf("change %d leaves it the same", i)
		}
	}
}

func TestCopy(t *testing.T) {
	r := sample()
	c := resource.Copy(r)
	if !resource.Same(r, c) {
		t.Errorf("Copy = %+v", c)
	}
	clear(c.Attrs)
	clear(c.After)
	if !resource.Same(r, sample()) {
		t.Errorf("the copy shares room: %+v", r)
	}
}
