// Package config: what is wanted, as a text: see DOC.md.
package config

import (
	"mason/api"
	"mason/list"
	"mason/rules"
)

// fault is an error and its place in the text; its zero value is none.
type fault struct {
	errno api.Errno
	place int
}

func (f fault) is() bool { return f.errno != api.OK }

// Parse reads a text (P3 to P5).
func Parse(text string) ([]api.Resource, api.Errno, int) {
	if len(text) > api.MaxText {
		return nil, api.ErrLong, 0
	}
	tokens, f := cut(text)
	if f.is() {
		return nil, f.errno, f.place
	}
	p := newParser(tokens)
	if f := p.readText(); f.is() {
		return nil, f.errno, f.place
	}
	if f := p.checkRefs(); f.is() {
		return nil, f.errno, f.place
	}
	l := p.resources()
	if f := p.checkCircles(l); f.is() {
		return nil, f.errno, f.place
	}
	return l, api.OK, 0
}

// checkRefs looks for a ref that is no resource of the text.
func (p *parser) checkRefs() fault {
	r, found := list.Find(p.refs, func(r ref) bool { return !p.entries.Has(r.id) })
	if found {
		return fault{api.ErrNone, r.place}
	}
	return fault{}
}

// checkCircles looks for a resource that waits for itself.
func (p *parser) checkCircles(l []api.Resource) fault {
	e, found := list.Find(p.order, func(e *entry) bool { return rules.WaitsForItself(l, e.id) })
	if found {
		return fault{api.ErrCycle, e.place}
	}
	return fault{}
}
