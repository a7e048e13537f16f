package rules

import (
	"slices"

	"mason/api"
	"mason/list"
	"mason/table"
)

// Waits tells whether the resource of an ID waits for one that fits, among the resources of a list.
func Waits(l []api.Resource, id api.ID, fits func(api.ID) bool) bool {
	// What was met is not followed again: others may wait in a circle that id is not part of.
	met := table.New[api.ID, struct{}](CompareIDs)
	todo := []api.ID{id}
	for len(todo) > 0 {
		last := len(todo) - 1
		next := todo[last]
		todo = todo[:last]
		for _, after := range afterOf(l, next) {
			if fits(after) {
				return true
			}
			if !met.Has(after) {
				met.Put(after, struct{}{})
				todo = append(todo, after)
			}
		}
	}
	return false
}

func afterOf(l []api.Resource, id api.ID) []api.ID {
	r, _ := list.Find(l, func(r api.Resource) bool { return r.ID == id })
	return r.After
}

// WaitsForItself tells whether the resource of an ID waits for itself, among the resources of a list.
func WaitsForItself(l []api.Resource, id api.ID) bool {
	return Waits(l, id, func(other api.ID) bool { return other == id })
}

// AreWhole tells whether resources may be, and are whole.
func AreWhole(l []api.Resource) bool {
	return AllMayBe(l) && list.Every(l, func(r api.Resource) bool {
		return hasAll(l, r.After) && !WaitsForItself(l, r.ID)
	})
}

func hasAll(l []api.Resource, ids []api.ID) bool {
	return list.Every(ids, func(id api.ID) bool {
		return slices.ContainsFunc(l, func(r api.Resource) bool { return r.ID == id })
	})
}
