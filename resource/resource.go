// Package resource: resources as values, that are compared and copied.
package resource

import (
	"slices"

	"mason/api"
	"mason/list"
)

// Same tells whether two resources have the same ID, Attrs and After.
func Same(a, b api.Resource) bool {
	return a.ID == b.ID && slices.Equal(a.Attrs, b.Attrs) && slices.Equal(a.After, b.After)
}

// Copy makes a resource that shares no list with the one it is made of.
func Copy(r api.Resource) api.Resource {
	return api.Resource{ID: r.ID, Attrs: list.Copy(r.Attrs), After: list.Copy(r.After)}
}

// CopyStep makes a step that shares no list with the one it is made of.
func CopyStep(s api.Step) api.Step {
	return api.Step{Op: s.Op, Resource: Copy(s.Resource)}
}
