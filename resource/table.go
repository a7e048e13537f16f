package resource

import (
	"mason/api"
	"mason/rules"
	"mason/table"
)

// Table keeps resources by their IDs.
type Table = table.Table[api.ID, api.Resource]

// ByID makes a table of resources, that shares no list with them.
func ByID(l []api.Resource) *Table {
	t := table.New[api.ID, api.Resource](rules.CompareIDs)
	for _, r := range l {
		t.Put(r.ID, Copy(r))
	}
	return t
}

// Do does to a table what a step says, and shares no list with the step.
func Do(t *Table, s api.Step) {
	if s.Op == api.Delete {
		t.Take(s.Resource.ID)
		return
	}
	t.Put(s.Resource.ID, Copy(s.Resource))
}
