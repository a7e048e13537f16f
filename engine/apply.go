package engine

import (
	"sync"

	"mason/api"
	"mason/config"
	"mason/plan"
	"mason/resource"
	"mason/world"
)

// Apply builds what a text wants (P14).
func (e *Engine) Apply(text string) (api.Errno, int) {
	if !e.up {
		return api.ErrDown, 0
	}
	want, errno, place := config.Parse(text)
	if errno != api.OK {
		return errno, place
	}
	if e.countWith(want) > api.MaxResources {
		return api.ErrMany, 0
	}
	steps, errno := plan.Steps(e.recorded.Values(), want)
	if errno != api.OK {
		return errno, 0
	}
	errno = e.build(steps)
	e.up = errno != api.ErrDown
	return errno, 0
}

// countWith tells how many IDs what is recorded and what is wanted have together.
func (e *Engine) countWith(want []api.Resource) int {
	all := resource.ByID(want)
	for id, r := range e.recorded.All() {
		all.Put(id, r)
	}
	return all.Len()
}

// build does steps while the world works beside it.
func (e *Engine) build(steps []api.Step) api.Errno {
	calls := make(chan world.Call)
	var working sync.WaitGroup
	working.Add(1)
	go func() {
		defer working.Done()
		e.world.Serve(calls)
	}()
	b := builder{Engine: e, calls: calls}
	errno := b.doAll(queue(steps))
	close(calls)
	working.Wait()
	return errno
}

// queue is a channel that has all steps, and is closed.
func queue(l []api.Step) <-chan api.Step {
	steps := make(chan api.Step, len(l))
	for _, s := range l {
		steps <- s
	}
	close(steps)
	return steps
}

// builder is an engine while it does the steps of a plan.
type builder struct {
	*Engine
	calls   chan<- world.Call
	intents int // how many the journal has
}

// doAll does steps up to the first that ends with an error, and has a checkpoint behind them,
// whose error hides theirs.
func (b *builder) doAll(steps <-chan api.Step) api.Errno {
	errno := b.doSteps(steps)
	if errno == api.ErrDown || b.intents == 0 {
		return errno
	}
	if down := b.checkpoint(); down != api.OK {
		return down
	}
	return errno
}

func (b *builder) doSteps(steps <-chan api.Step) api.Errno {
	for s := range steps {
		if errno := b.do(s); errno != api.OK {
			return errno
		}
	}
	return api.OK
}

// do does one step: what is meant to be done stands in the journal ahead of it.
func (b *builder) do(s api.Step) api.Errno {
	token := api.Token{Epoch: b.epoch, Number: b.intents}
	intent := entry(api.Record{Kind: api.Intent, Token: token, Step: s})
	done := entry(api.Record{Kind: api.Done, Token: token})
	if b.epoch == api.MaxCount || b.used()+len(intent)+len(done)+b.longestState(s) > b.room {
		return api.ErrFull
	}
	b.intents++
	if errno := b.appendAndSync(intent); errno != api.OK {
		return errno
	}
	isDone, errno := b.call(token, s)
	if errno != api.OK {
		return errno
	}
	if !isDone {
		return b.fail(token)
	}
	if errno := b.appendAndSync(done); errno != api.OK {
		return errno
	}
	resource.Do(b.recorded, s)
	return api.OK
}

// longestState tells how long the state of the next epoch may be: without a step or with it.
func (b *builder) longestState(s api.Step) int {
	next, with := b.epoch+1, b.recorded.Copy()
	resource.Do(with, s)
	return max(len(stateOf(next, b.recorded)), len(stateOf(next, with)))
}

// call asks the world for a step, and tells whether it is done.
func (b *builder) call(token api.Token, s api.Step) (bool, api.Errno) {
	halted, refused := b.faults.next()
	if halted && !b.faults.halt.behind {
		return false, b.breakOff()
	}
	answer := make(chan bool)
	b.calls <- world.Call{Token: token, Step: s, Refuse: refused, Answer: answer}
	isDone := <-answer
	if halted {
		return false, b.breakOff()
	}
	return isDone, api.OK
}

// breakOff loses what does not last, as Halt said it.
func (b *builder) breakOff() api.Errno {
	b.disk.Crash(b.faults.halt.keep, b.faults.halt.names)
	return api.ErrDown
}

// fail puts into the journal that a step was refused.
func (b *builder) fail(token api.Token) api.Errno {
	if errno := b.appendAndSync(entry(api.Record{Kind: api.Fail, Token: token})); errno != api.OK {
		return errno
	}
	return api.ErrRefused
}
