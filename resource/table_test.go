package resource_test

import (
	"testing"

	"mason/api"
	"mason/resource"
)

func TestByID(t *testing.T) {
	if n := resource.ByID(nil).Len(); n != 0 {
		t.Errorf("there are %d", n)
	}
	a, b := sample(), sample()
	b.ID = api.ID{Kind: "net", Name: "z"}
	table := resource.ByID([]api.Resource{a, b})
	l := table.Values()
	if len(l) != 2 || !resource.Same(l[0], b) || !resource.Same(l[1], a) {
		t.Errorf("there are %+v", l)
	}
	clear(a.Attrs)
	clear(a.After)
	if got, _ := table.Get(a.ID); !resource.Same(got, sample()) {
		t.Errorf("it shares a list: %+v", got)
	}
}

func TestDo(t *testing.T) {
	table := resource.ByID(nil)
	r := sample()
	resource.Do(table, api.Step{Op: api.Create, Resource: r})
	clear(r.Attrs)
	if got, there := table.Get(r.ID); !there || !resource.Same(got, sample()) {
		t.Errorf("behind a Create: %+v, %v", got, there)
	}
	r.Attrs = nil
	resource.Do(table, api.Step{Op: api.Update, Resource: r})
	if got, there := table.Get(r.ID); !there || !resource.Same(got, r) {
		t.Errorf("behind an Update: %+v, %v", got, there)
	}
	resource.Do(table, api.Step{Op: api.Delete, Resource: sample()})
	if table.Len() != 0 {
		t.Errorf("behind a Delete: %+v", table.Values())
	}
}

func TestCopyStep(t *testing.T) {
	s := api.Step{Op: api.Update, Resource: sample()}
	c := resource.CopyStep(s)
	if c.Op != api.Update || !resource.Same(c.Resource, sample()) {
		t.Errorf("CopyStep = %+v", c)
	}
	clear(c.Resource.Attrs)
	clear(c.Resource.After)
	if !resource.Same(s.Resource, sample()) {
		t.Errorf("the copy shares room: %+v", s)
	}
}
