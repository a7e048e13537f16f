package engine

import (
	"mason/api"
	"mason/journal"
	"mason/resource"
	"mason/wire"
)

// The names of the files.
const (
	stateFile   = "state"
	journalFile = "journal"
	tempFile    = "temp"
)

// inTurn does one thing behind the other, up to the first that has an error.
func inTurn(l ...func() api.Errno) api.Errno {
	for _, do := range l {
		if errno := do(); errno != api.OK {
			return errno
		}
	}
	return api.OK
}

// entry is a record as it stands in a journal.
func entry(r api.Record) string {
	// The engine makes only records that may be: there is no error.
	body, _ := journal.Encode(r)
	head := wire.AppendNumber(nil, len(body), wire.LengthSize)
	head = wire.AppendNumber(head, journal.Sum(body), wire.SumSize)
	return string(head) + body
}

// stateOf is the state of an epoch, with what is recorded.
func stateOf(epoch int, recorded *resource.Table) string {
	// The order of the steps leaves resources that are whole behind each of them: there is no error.
	s, _ := journal.State(epoch, recorded.Values())
	return s
}

func (e *Engine) writeAndSync(name, s string) api.Errno {
	return inTurn(
		func() api.Errno { return e.disk.Write(name, s) },
		func() api.Errno { return e.disk.Sync(name) },
	)
}

// appendAndSync puts an entry behind the journal's.
func (e *Engine) appendAndSync(entry string) api.Errno {
	return inTurn(
		func() api.Errno { return e.disk.Append(journalFile, entry) },
		func() api.Errno { return e.disk.Sync(journalFile) },
	)
}

// beginJournal writes a journal that has nothing but a Begin.
func (e *Engine) beginJournal(epoch int) api.Errno {
	begin := entry(api.Record{Kind: api.Begin, Token: api.Token{Epoch: epoch}})
	return inTurn(
		func() api.Errno { return e.writeAndSync(journalFile, begin) },
		e.disk.SyncNames,
	)
}

// checkpoint puts what is recorded into the state of the next epoch (P15).
func (e *Engine) checkpoint() api.Errno {
	next := e.epoch + 1
	errno := inTurn(
		func() api.Errno { return e.writeAndSync(tempFile, stateOf(next, e.recorded)) },
		func() api.Errno { return e.disk.Rename(tempFile, stateFile) },
		e.disk.SyncNames,
		func() api.Errno { return e.beginJournal(next) },
	)
	if errno == api.OK {
		e.epoch = next
	}
	return errno
}

// used tells how many bytes all files have.
func (e *Engine) used() int {
	n := 0
	for _, name := range e.disk.Names() {
		s, _ := e.disk.Read(name)
		n += len(s)
	}
	return n
}
