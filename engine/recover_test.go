package engine

import (
	"testing"

	"mason/api"
	"mason/config"
	"mason/resource"
)

// made is a record of an Intent to make a thing.
func made(epoch, number int, name string) api.Record {
	r := api.Resource{ID: api.ID{Kind: "k", Name: name}}
	return api.Record{Kind: api.Intent, Token: api.Token{Epoch: epoch, Number: number}, Step: api.Step{Op: api.Create, Resource: r}}
}

func ended(kind, epoch, number int) api.Record {
	return api.Record{Kind: kind, Token: api.Token{Epoch: epoch, Number: number}}
}

// P16: what is recorded comes from the state and from those records that count, and from nothing else.
func TestRecoverReads(t *testing.T) {
	begin := ended(api.Begin, 5, 0)
	for i, c := range []struct {
		records []api.Record
		tail    string
		want    string
		epoch   int
	}{
		{nil, "", "z", 5},
		{nil, "\x00\x07", "z", 5},
		{[]api.Record{begin}, "", "z", 5},
		{[]api.Record{begin}, entry(made(5, 0, "a"))[1:], "z", 5},
		{[]api.Record{begin, made(5, 0, "a")}, "", "z", 6},
		{[]api.Record{begin, made(5, 0, "a"), ended(api.Done, 5, 0)}, "", "az", 6},
		{[]api.Record{begin, made(5, 0, "a"), ended(api.Done, 5, 0)}, "\x00", "az", 6},
		{[]api.Record{begin, made(5, 0, "a"), ended(api.Fail, 5, 0)}, "", "z", 6},
		{[]api.Record{begin, made(5, 0, "a"), ended(api.Done, 5, 1)}, "", "z", 6},
		{[]api.Record{begin, made(5, 0, "a"), ended(api.Done, 4, 0)}, "", "z", 6},
		{[]api.Record{begin, made(5, 0, "a"), made(5, 1, "b"), ended(api.Done, 5, 1)}, "", "bz", 6},
		{[]api.Record{begin, made(5, 0, "a"), ended(api.Done, 5, 0), made(5, 1, "b"), ended(api.Done, 5, 1), made(5, 2, "c")}, "", "abz", 6},
		{[]api.Record{begin, ended(api.Done, 5, 0), ended(api.Fail, 5, 1)}, "", "z", 5},
		{[]api.Record{ended(api.Begin, 4, 0), made(4, 0, "a"), ended(api.Done, 4, 0)}, "", "z", 5},
		{[]api.Record{ended(api.Begin, 6, 0), made(6, 0, "a"), ended(api.Done, 6, 0)}, "", "z", 5},
		{[]api.Record{made(5, 0, "a"), ended(api.Done, 5, 0)}, "", "z", 5},
		{[]api.Record{ended(api.Done, 5, 0), begin, made(5, 0, "a")}, "", "z", 5},
	} {
		e, _ := New(api.MinRoom)
		s := ""
		for _, r := range c.records {
			s += entry(r)
		}
		recoversFrom(t, e, s+c.tail)
		l, errno := e.Recorded()
		got := ""
		for _, r := range l {
			got += r.ID.Name
		}
		if got != c.want || errno != api.OK || e.epoch != c.epoch {
			t.Errorf("case %d: recorded is %q, %d, in the epoch %d, want %q, %d", i, got, errno, e.epoch, c.want, c.epoch)
		}
		if e.Calls() != 0 {
			t.Errorf("case %d: the world was called", i)
		}
	}
}

// recoversFrom lets an engine recover from a state of the epoch 5 with k.z, and from a journal.
func recoversFrom(t *testing.T, e *Engine, journal string) {
	t.Helper()
	l, _, _ := config.Parse("resource k z {}")
	errno := inTurn(
		func() api.Errno { return e.writeAndSync(stateFile, stateOf(5, resource.ByID(l))) },
		func() api.Errno { return e.writeAndSync(journalFile, journal) },
		e.disk.SyncNames,
		func() api.Errno { return e.Crash(0, 0) },
		e.Recover,
	)
	if errno != api.OK {
		t.Fatalf("Recover = %d", errno)
	}
}
