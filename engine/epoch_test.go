package engine

import (
	"testing"

	"mason/api"
	"mason/journal"
	"mason/resource"
)

// inEpoch is an engine that recovered from a state of an epoch to which it would be far.
func inEpoch(t *testing.T, epoch int) *Engine {
	t.Helper()
	e, _ := New(api.MinRoom)
	errno := inTurn(
		func() api.Errno { return e.writeAndSync(stateFile, stateOf(epoch, resource.ByID(nil))) },
		e.disk.SyncNames,
		func() api.Errno { return e.Crash(0, 0) },
		e.Recover,
	)
	if errno != api.OK {
		t.Fatalf("an engine of the epoch %d: %d", epoch, errno)
	}
	return e
}

func isIn(t *testing.T, e *Engine, want, resources int) {
	t.Helper()
	s, _ := e.File(stateFile)
	epoch, l, errno := journal.Load(s)
	if epoch != want || len(l) != resources || errno != api.OK {
		t.Errorf("the state is of %d, with %v, want %d", epoch, l, want)
	}
	s, _ = e.File(journalFile)
	records, size := journal.Scan(s)
	if len(records) != 1 || records[0].Kind != api.Begin || records[0].Token.Epoch != want || size != len(s) {
		t.Errorf("the journal is %v, want a Begin of %d", records, want)
	}
	if len(e.World()) != resources {
		t.Errorf("the world is %v", e.World())
	}
}

func answers(t *testing.T, e *Engine, text string, want api.Errno) {
	t.Helper()
	if errno, place := e.Apply(text); errno != want || place != 0 {
		t.Fatalf("Apply(%q) = %d, %d, want %d", text, errno, place, want)
	}
}

// P14: in the last epoch no step is done.
func TestLastEpoch(t *testing.T) {
	const made = "resource a b {}"
	e := inEpoch(t, api.MaxCount-1)
	isIn(t, e, api.MaxCount-1, 0)
	answers(t, e, made, api.OK)
	isIn(t, e, api.MaxCount, 1)
	e.Refuse(1)
	e.Break(1, 0, 0)
	answers(t, e, "", api.ErrFull)
	answers(t, e, made+"resource c d {}", api.ErrFull)
	answers(t, e, made, api.OK)
	isIn(t, e, api.MaxCount, 1)
	if e.Calls() != 1 {
		t.Errorf("Calls = %d", e.Calls())
	}
	e.Crash(0, 0)
	if errno := e.Recover(); errno != api.OK {
		t.Errorf("Recover in the last epoch = %d", errno)
	}
	isIn(t, e, api.MaxCount, 1)
}

// P16: the last checkpoint may break off, too.
func TestRecoverIntoLastEpoch(t *testing.T) {
	for k := 1; k <= 11; k++ {
		e := inEpoch(t, api.MaxCount-1)
		e.Break(k, 0, 0)
		answers(t, e, "resource a b {}", api.ErrDown)
		made := len(e.World())
		if errno := e.Recover(); errno != api.OK {
			t.Fatalf("Recover = %d", errno)
		}
		if made == 1 {
			isIn(t, e, api.MaxCount, 1)
		} else {
			isIn(t, e, api.MaxCount-1, 0)
		}
	}
}
