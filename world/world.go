// Package world: what is built, and what it knows of those who built it.
package world

import (
	"cmp"

	"mason/api"
	"mason/list"
	"mason/resource"
	"mason/table"
)

// World has resources, and knows tokens.
type World struct {
	resources *resource.Table
	known     *table.Table[api.Token, bool] // whether the step of a token was done, or was refused
	history   []api.Step
	calls     int
}

// Call asks the world for a step.
type Call struct {
	Token  api.Token
	Step   api.Step
	Refuse bool        // what is known already is not refused
	Answer chan<- bool // gets whether the step is done
}

// New makes a world without anything.
func New() *World {
	return &World{resources: resource.ByID(nil), known: table.New[api.Token, bool](compareTokens)}
}

func compareTokens(a, b api.Token) int {
	return cmp.Or(cmp.Compare(a.Epoch, b.Epoch), cmp.Compare(a.Number, b.Number))
}

// Serve answers the calls that come, until their channel is closed.
func (w *World) Serve(calls <-chan Call) {
	for c := range calls {
		w.calls++
		c.Answer <- w.answer(c)
	}
}

func (w *World) answer(c Call) bool {
	if done, known := w.known.Get(c.Token); known {
		return done
	}
	if !c.Refuse {
		w.do(c.Step)
	}
	w.known.Put(c.Token, !c.Refuse)
	return !c.Refuse
}

func (w *World) do(s api.Step) {
	resource.Do(w.resources, s)
	w.history = append(w.history, resource.CopyStep(s))
}

// HasDone tells whether the step of a token is known, and was done. That is no call.
func (w *World) HasDone(token api.Token) bool {
	done, _ := w.known.Get(token)
	return done
}

// Resources tells what is there, by rising IDs, as new memory.
func (w *World) Resources() []api.Resource { return list.Map(w.resources.Values(), resource.Copy) }

// History tells all steps that were done, in their order, as new memory.
func (w *World) History() []api.Step { return list.Map(w.history, resource.CopyStep) }

// Calls tells how many calls there were.
func (w *World) Calls() int { return w.calls }
