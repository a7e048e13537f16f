package world_test

import (
	"strings"
	"sync"
	"testing"

	"mason/api"
	"mason/world"
)

func thing(name string, n int) api.Resource {
	return api.Resource{ID: api.ID{Kind: "k", Name: name}, Attrs: []api.Attr{{Name: "n", Number: n}}, After: []api.ID{{Kind: "k", Name: "z"}}}
}

func call(epoch, number, op int, r api.Resource, refuse bool) world.Call {
	return world.Call{Token: api.Token{Epoch: epoch, Number: number}, Step: api.Step{Op: op, Resource: r}, Refuse: refuse}
}

// ask lets the world work for some calls, and tells its answers, as "+-".
func ask(w *world.World, l ...world.Call) string {
	calls := make(chan world.Call)
	var working sync.WaitGroup
	working.Go(func() { w.Serve(calls) })
	var answers strings.Builder
	for _, c := range l {
		answer := make(chan bool)
		c.Answer = answer
		calls <- c
		if <-answer {
			answers.WriteString("+")
		} else {
			answers.WriteString("-")
		}
	}
	close(calls)
	working.Wait()
	return answers.String()
}

// there tells what the world has, as "a1 b2".
func there(w *world.World) string {
	var l []string
	for _, r := range w.Resources() {
		l = append(l, r.ID.Name+string(rune('0'+r.Attrs[0].Number)))
	}
	return strings.Join(l, " ")
}

// done tells the history, as "+a1 ~a2 -a2".
func done(w *world.World) string {
	var l []string
	for _, s := range w.History() {
		l = append(l, string(" +~-"[s.Op])+s.Resource.ID.Name+string(rune('0'+s.Resource.Attrs[0].Number)))
	}
	return strings.Join(l, " ")
}

func is(t *testing.T, w *world.World, resources, history string, calls int) {
	t.Helper()
	if there(w) != resources || done(w) != history || w.Calls() != calls {
		t.Errorf("the world has %q, by %q, with %d calls, want %q, %q, %d", there(w), done(w), w.Calls(), resources, history, calls)
	}
}

func TestNothing(t *testing.T) {
	w := world.New()
	if s := ask(w); s != "" {
		t.Errorf("the answers are %s", s)
	}
	is(t, w, "", "", 0)
	if w.HasDone(api.Token{}) || w.HasDone(api.Token{Epoch: 1}) {
		t.Error("a new world has done something")
	}
}

// P13: each kind of step, and what is refused.
func TestSteps(t *testing.T) {
	w := world.New()
	if s := ask(w, call(1, 0, api.Create, thing("b", 1), false), call(1, 1, api.Create, thing("a", 2), false), call(1, 2, api.Create, thing("c", 3), true)); s != "++-" {
		t.Errorf("the answers are %s", s)
	}
	is(t, w, "a2 b1", "+b1 +a2", 3)
	if s := ask(w, call(2, 0, api.Update, thing("a", 3), false), call(2, 1, api.Update, thing("b", 9), true), call(2, 2, api.Delete, thing("b", 1), false), call(2, 3, api.Delete, thing("a", 3), true)); s != "+-+-" {
		t.Errorf("the answers are %s", s)
	}
	is(t, w, "a3", "+b1 +a2 ~a3 -b1", 7)
}

// P13: a token that is known has the answer that it had, whatever comes with it, and nothing changes.
func TestKnownTokens(t *testing.T) {
	w := world.New()
	ask(w, call(1, 2, api.Create, thing("a", 1), false), call(2, 1, api.Create, thing("b", 1), true))
	for _, refuse := range []bool{false, true} {
		for _, op := range []int{api.Create, api.Update, api.Delete} {
			if s := ask(w, call(1, 2, op, thing("a", 2), refuse), call(2, 1, op, thing("b", 2), refuse)); s != "+-" {
				t.Errorf("the answers are %s", s)
			}
		}
	}
	is(t, w, "a1", "+a1", 14)
	for token, want := range map[api.Token]bool{{Epoch: 1, Number: 2}: true, {Epoch: 2, Number: 1}: false, {Epoch: 1, Number: 1}: false, {Epoch: 2, Number: 2}: false} {
		if w.HasDone(token) != want {
			t.Errorf("HasDone(%v) = %v", token, !want)
		}
	}
	if w.Calls() != 14 {
		t.Error("HasDone is a call")
	}
}

// What comes in is not kept, and what comes out is new memory.
func TestSharesNothing(t *testing.T) {
	w := world.New()
	r := thing("a", 1)
	ask(w, call(1, 0, api.Create, r, false))
	r.Attrs[0].Number, r.After[0].Name = 9, "spoilt"
	for range 2 {
		is(t, w, "a1", "+a1", 1)
		l, h := w.Resources(), w.History()
		if l[0].After[0].Name != "z" || h[0].Resource.After[0].Name != "z" {
			t.Errorf("the world has %v, by %v", l, h)
		}
		l[0].Attrs[0].Number, l[0].After[0].Name = 9, "spoilt"
		h[0].Resource.Attrs[0].Number, h[0].Resource.After[0].Name = 9, "spoilt"
		clear(l)
		clear(h)
	}
}
