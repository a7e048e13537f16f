package engine_test

import (
	"strconv"
	"testing"

	"mason/api"
	"mason/engine"
)

// left is what a break at an act leaves: of nothing that does not last; of 5 bytes and one change; of all.
type left struct {
	what               string
	none, little, plus string
	made               bool // whether the world has it
}

// lefts is what stays: how many bytes, how many changes, and which of a left they lead to.
var lefts = []struct {
	keep, names int
	of          func(left) string
}{
	{0, 0, func(l left) string { return l.none }},
	{-1, -1, func(l left) string { return l.none }},
	{least, least, func(l left) string { return l.none }},
	{5, 1, func(l left) string { return l.little }},
	{1000, 9, func(l left) string { return l.plus }},
	{most, most, func(l left) string { return l.plus }},
}

// P14, P15: the acts of an Apply of one step, in their order, by what a break at each of them leaves.
func TestBreakInApply(t *testing.T) {
	for i, l := range []left{
		{"Append of the Intent", "s1 j1B", "s1 j1B+5", "s1 j1BI", false},
		{"Sync", "s1 j1B", "s1 j1B+5", "s1 j1BI", false},
		{"Append of the Done", "s1 j1BI", "s1 j1BI+5", "s1 j1BID", true},
		{"Sync", "s1 j1BI", "s1 j1BI+5", "s1 j1BID", true},
		{"Write of temp", "s1 j1BID", "s1 j1BID temp:5bytes", "s1 j1BID temp:s2", true},
		{"Sync of temp", "s1 j1BID", "s1 j1BID temp:5bytes", "s1 j1BID temp:s2", true},
		{"Rename", "s1 j1BID", "s1 j1BID temp:s2", "s2 j1BID", true},
		{"SyncNames", "s1 j1BID", "s1 j1BID temp:s2", "s2 j1BID", true},
		{"Write of journal", "s2 j1BID", "s2 j+5", "s2 j2B", true},
		{"Sync of journal", "s2 j1BID", "s2 j+5", "s2 j2B", true},
		{"SyncNames", "s2 j1BID", "s2 j2B", "s2 j2B", true},
	} {
		for _, x := range lefts {
			e := fresh(t, api.MinRoom)
			ok(t, e.Break(i+1, x.keep, x.names))
			apply(t, e, one, api.ErrDown)
			brokenOff(t, e, l.what, x.of(l))
			made := ""
			if l.made {
				made = one
			}
			worldIs(t, e, made)
			ok(t, e.Recover())
			isBuilt(t, e, made)
			apply(t, e, one, api.OK)
			isBuilt(t, e, one)
			historyIs(t, e, "+net.b")
		}
	}
	e := fresh(t, api.MinRoom)
	ok(t, e.Break(12, 0, 0))
	apply(t, e, one, api.OK)
	filesAre(t, e, "s2 j2B")
	apply(t, e, "", api.ErrDown) // the 12th act is that of the next Apply
}

func brokenOff(t *testing.T, e *engine.Engine, what, want string) {
	t.Helper()
	isDown(t, e)
	if got := files(t, e); got != want {
		t.Fatalf("%s: the files are %s, want %s", what, got, want)
	}
}

// P14: at the acts behind a call that was refused: a Fail stands in the place of the Done.
func TestBreakBehindRefused(t *testing.T) {
	for i, l := range []left{
		{"Append of the Fail", "s1 j1BI", "s1 j1BI+5", "s1 j1BIF", false},
		{"Sync", "s1 j1BI", "s1 j1BI+5", "s1 j1BIF", false},
		{"Write of temp", "s1 j1BIF", "s1 j1BIF temp:5bytes", "s1 j1BIF temp:s2", false},
	} {
		for _, x := range lefts {
			e := fresh(t, api.MinRoom)
			ok(t, e.Refuse(1), e.Break(i+3, x.keep, x.names))
			apply(t, e, one, api.ErrDown)
			brokenOff(t, e, l.what, x.of(l))
			ok(t, e.Recover())
			isBuilt(t, e, "")
			filesAre(t, e, "s2 j2B")
			callsAre(t, e, 1)
		}
	}
}

// recovers breaks a Recover off at each of its acts, with all that may stay, and again and again.
func recovers(t *testing.T, make func() *engine.Engine, made string, l []left, end string) {
	t.Helper()
	for i, l := range l {
		for _, x := range lefts {
			e := make()
			ok(t, e.Break(i+1, x.keep, x.names))
			must(t, "Recover, at its "+l.what, e.Recover(), api.ErrDown)
			brokenOff(t, e, l.what, x.of(l))
			worldIs(t, e, made)
			ok(t, e.Recover())
			isBuilt(t, e, made)
		}
	}
	e := make()
	ok(t, e.Break(len(l)+1, 0, 0), e.Recover())
	isBuilt(t, e, made)
	filesAre(t, e, end)
	apply(t, e, one+"resource new x {}", api.ErrDown)
}

// P16: with an Intent, and a whole temp.
func TestBreakInRecoverWithTemp(t *testing.T) {
	recovers(t, func() *engine.Engine {
		e := fresh(t, api.MinRoom)
		ok(t, e.Break(6, 1000, 1))
		apply(t, e, one, api.ErrDown)
		filesAre(t, e, "s1 j1BID temp:s2")
		return e
	}, one, []left{
		{"Remove of temp", "s1 j1BID temp:s2", "s1 j1BID", "s1 j1BID", true},
		{"Write of temp", "s1 j1BID temp:s2", "s1 j1BID", "s1 j1BID temp:s2", true},
		{"Sync of temp", "s1 j1BID temp:s2", "s1 j1BID", "s1 j1BID temp:s2", true},
		{"Rename", "s1 j1BID temp:s2", "s1 j1BID", "s2 j1BID", true},
		{"SyncNames", "s1 j1BID temp:s2", "s1 j1BID", "s2 j1BID", true},
		{"Write of journal", "s2 j1BID", "s2 j+5", "s2 j2B", true},
		{"Sync of journal", "s2 j1BID", "s2 j+5", "s2 j2B", true},
		{"SyncNames", "s2 j1BID", "s2 j2B", "s2 j2B", true},
	}, "s2 j2B")
}

// P16: with an Intent that only the world knows to be done, and no temp.
func TestBreakInRecoverOfIntent(t *testing.T) {
	recovers(t, func() *engine.Engine {
		e := fresh(t, api.MinRoom)
		ok(t, e.Break(3, 7, 0))
		apply(t, e, one, api.ErrDown)
		filesAre(t, e, "s1 j1BI+7")
		return e
	}, one, []left{
		{"Write of temp", "s1 j1BI+7", "s1 j1BI+7 temp:5bytes", "s1 j1BI+7 temp:s2", true},
		{"Sync of temp", "s1 j1BI+7", "s1 j1BI+7 temp:5bytes", "s1 j1BI+7 temp:s2", true},
		{"Rename", "s1 j1BI+7", "s1 j1BI+7 temp:s2", "s2 j1BI+7", true},
		{"SyncNames", "s1 j1BI+7", "s1 j1BI+7 temp:s2", "s2 j1BI+7", true},
		{"Write of journal", "s2 j1BI+7", "s2 j+5", "s2 j2B", true},
		{"Sync of journal", "s2 j1BI+7", "s2 j+5", "s2 j2B", true},
		{"SyncNames", "s2 j1BI+7", "s2 j2B", "s2 j2B", true},
	}, "s2 j2B")
}

// P16: without an Intent: one that is torn does not count.
func TestBreakInRecoverOfNothing(t *testing.T) {
	recovers(t, func() *engine.Engine {
		e := fresh(t, api.MinRoom)
		ok(t, e.Break(1, 7, 0))
		apply(t, e, one, api.ErrDown)
		filesAre(t, e, "s1 j1B+7")
		return e
	}, "", []left{
		{"Write of journal", "s1 j1B+7", "s1 j+5", "s1 j1B", false},
		{"Sync of journal", "s1 j1B+7", "s1 j+5", "s1 j1B", false},
		{"SyncNames", "s1 j1B+7", "s1 j1B", "s1 j1B", false},
	}, "s1 j1B")
}

// P16: a journal of the epoch that was does not count.
func TestBreakInRecoverOfOldJournal(t *testing.T) {
	recovers(t, func() *engine.Engine {
		e := fresh(t, api.MinRoom)
		ok(t, e.Break(9, 0, 0))
		apply(t, e, one, api.ErrDown)
		filesAre(t, e, "s2 j1BID")
		return e
	}, one, []left{
		{"Write of journal", "s2 j1BID", "s2 j+5", "s2 j2B", true},
		{"Sync of journal", "s2 j1BID", "s2 j+5", "s2 j2B", true},
		{"SyncNames", "s2 j1BID", "s2 j2B", "s2 j2B", true},
	}, "s2 j2B")
}

// P16: an Intent that was not called is not recorded; its token is not used again.
func TestIntentNotCalled(t *testing.T) {
	for _, halt := range []bool{false, true} {
		e := fresh(t, api.MinRoom)
		if halt {
			ok(t, e.Halt(1, false, 0, 0))
		} else {
			ok(t, e.Break(2, 1000, 0))
		}
		apply(t, e, one, api.ErrDown)
		filesAre(t, e, "s1 j1BI")
		ok(t, e.Recover())
		isBuilt(t, e, "")
		filesAre(t, e, "s2 j2B")
		callsAre(t, e, 0)
	}
}

// P16: the Intents with a Done are recorded in their order, of each kind of step, and the last one by what the world says.
func TestRecoverSteps(t *testing.T) {
	have := "resource a a { x = 1 } resource a b { after = [a.a] } resource a c {}"
	want := "resource a a { x = 2 } resource a d { after = [a.a] }"
	// ~a.a +a.d -a.b -a.c
	worlds := []string{
		have,
		"resource a a { x = 2 } resource a b { after = [a.a] } resource a c {}",
		"resource a a { x = 2 } resource a b { after = [a.a] } resource a c {} resource a d { after = [a.a] }",
		"resource a a { x = 2 } resource a c {} resource a d { after = [a.a] }",
		want,
	}
	for k := 1; k <= 4; k++ {
		for _, behind := range []bool{false, true} {
			e := fresh(t, api.MaxRoom)
			apply(t, e, have, api.OK)
			ok(t, e.Halt(k, behind, 0, 0))
			apply(t, e, want, api.ErrDown)
			ok(t, e.Recover())
			made := k - 1
			if behind {
				made = k
			}
			isBuilt(t, e, worlds[made])
			filesAre(t, e, "s3 j3B")
			apply(t, e, want, api.OK)
			historyIs(t, e, "+a.a +a.b +a.c ~a.a +a.d -a.b -a.c")
			// The checkpoint behind the last step leaves nothing to do.
			epoch := 4
			if made == 4 {
				epoch = 3
			}
			filesAre(t, e, "s"+strconv.Itoa(epoch)+" j"+strconv.Itoa(epoch)+"B")
		}
	}
}
