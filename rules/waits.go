package rules

import (
	"mason/api"
	"mason/list"
	"mason/table"
)

// WaitsForItself tells whether the resource of an ID waits for itself, among the resources of a list.
func WaitsForItself(l []api.Resource, id api.ID) bool {
	// What was met is not followed again: others may wait in a circle that id is not part of.
	met := table.New[api.ID, struct{}](CompareIDs)
	todo := []api.ID{id}
	for len(todo) > 0 {
		last := len(todo) - 1
		next := todo[last]
		todo = todo[:last]
		for _, after := range afterOf(l, next) {
			if after == id {
				return true
			}
			if !met.Has(after) {
				met.Put(after, struct{}{})
				todo = append(todo, after)
			}
		}
	}
	return false
}

func afterOf(l []api.Resource, id api.ID) []api.ID {
	r, _ := list.Find(l, func(r api.Resource) bool { return r.ID == id })
	return r.After
}
