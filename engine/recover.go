package engine

import (
	"slices"

	"mason/api"
	"mason/journal"
	"mason/resource"
)

// Recover goes on behind a break (P16).
func (e *Engine) Recover() api.Errno {
	if e.up {
		return api.ErrArg
	}
	errno := e.restore()
	e.up = errno == api.OK
	return errno
}

func (e *Engine) restore() api.Errno {
	if errno := e.removeTemp(); errno != api.OK {
		return errno
	}
	if errno := e.loadState(); errno != api.OK {
		return errno
	}
	records := e.records()
	e.record(records)
	if slices.ContainsFunc(records, isIntent) {
		return e.checkpoint()
	}
	return e.beginJournal(e.epoch)
}

func (e *Engine) removeTemp() api.Errno {
	if !slices.Contains(e.disk.Names(), tempFile) {
		return api.OK
	}
	return e.disk.Remove(tempFile)
}

// loadState takes the epoch and what is recorded from the state.
func (e *Engine) loadState() api.Errno {
	s, errno := e.disk.Read(stateFile)
	if errno != api.OK {
		return errno
	}
	epoch, l, errno := journal.Load(s)
	if errno != api.OK {
		return errno
	}
	e.epoch, e.recorded = epoch, resource.ByID(l)
	return api.OK
}

// records tells the records of the journal that count: none, if it is not that of the epoch.
func (e *Engine) records() []api.Record {
	s, _ := e.disk.Read(journalFile)
	l, _ := journal.Scan(s)
	if len(l) == 0 || l[0].Kind != api.Begin || l[0].Token.Epoch != e.epoch {
		return nil
	}
	return l
}

func isIntent(r api.Record) bool { return r.Kind == api.Intent }

// record records each Intent that was done: the journal says so, or, of the last one, the world.
func (e *Engine) record(records []api.Record) {
	for i, r := range records {
		isLast := i == len(records)-1
		if isIntent(r) && (hasDone(records, r.Token) || isLast && e.world.HasDone(r.Token)) {
			resource.Do(e.recorded, r.Step)
		}
	}
}

func hasDone(records []api.Record, token api.Token) bool {
	return slices.ContainsFunc(records, func(r api.Record) bool { return r.Kind == api.Done && r.Token == token })
}
