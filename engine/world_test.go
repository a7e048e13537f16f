package engine_test

import (
	"testing"

	"mason/api"
)

const three = "resource a a {} resource a b {} resource a c {}"

// P13, P14: the k-th call is refused, once; no more is done of the steps; there is a checkpoint all the same.
func TestRefuse(t *testing.T) {
	for k, made := range []string{three, "", "resource a a {}", "resource a a {} resource a b {}", three} {
		e := fresh(t, api.MinRoom)
		ok(t, e.Refuse(k))
		want, calls := api.OK, 3
		if 1 <= k && k <= 3 {
			want, calls = api.ErrRefused, k
		}
		apply(t, e, three, want)
		isBuilt(t, e, made)
		callsAre(t, e, calls)
		filesAre(t, e, "s2 j2B")
		want = api.OK
		if k == 4 {
			want = api.ErrRefused
			apply(t, e, three, api.OK) // which calls nothing
			apply(t, e, "", want)
			isBuilt(t, e, three)
			want = api.OK
		}
		apply(t, e, three, want)
		isBuilt(t, e, three)
	}
}

// P13: the last Refuse is what counts, and 0 is none.
func TestRefuseLast(t *testing.T) {
	e := fresh(t, api.MinRoom)
	ok(t, e.Refuse(1), e.Refuse(0))
	apply(t, e, three, api.OK)
	ok(t, e.Refuse(1), e.Refuse(most), e.Refuse(3))
	apply(t, e, "", api.ErrRefused)
	historyIs(t, e, "+a.a +a.b +a.c -a.a -a.b")
	ok(t, e.Refuse(most))
	apply(t, e, "", api.OK)
}

// P13: the k-th call breaks off, ahead or behind, once; what stays is as Halt says.
func TestHalt(t *testing.T) {
	for k := range 5 {
		for _, behind := range []bool{false, true} {
			e := fresh(t, api.MinRoom)
			ok(t, e.Halt(k, behind, 0, 0))
			if k == 0 || k == 4 {
				apply(t, e, three, api.OK)
				callsAre(t, e, 3)
				continue
			}
			apply(t, e, three, api.ErrDown)
			isDown(t, e)
			made := k - 1
			if behind {
				made = k
			}
			callsAre(t, e, made)
			if len(e.World()) != made || len(e.History()) != made {
				t.Fatalf("the world has %v, by %v", e.World(), e.History())
			}
			filesAre(t, e, "s1 j1B"+"IDIDI"[:2*k-1])
			ok(t, e.Recover())
			callsAre(t, e, made) // asking is no call
			filesAre(t, e, "s2 j2B")
			apply(t, e, three, api.OK)
			isBuilt(t, e, three)
			historyIs(t, e, "+a.a +a.b +a.c")
			callsAre(t, e, 3)
		}
	}
}

// P13: the last Halt is what counts, and 0 is none.
func TestHaltLast(t *testing.T) {
	e := fresh(t, api.MinRoom)
	ok(t, e.Halt(1, true, 0, 0), e.Halt(0, true, 0, 0))
	apply(t, e, three, api.OK)
	ok(t, e.Halt(1, true, 0, 0), e.Halt(2, false, 0, 0))
	apply(t, e, "", api.ErrDown)
	historyIs(t, e, "+a.a +a.b +a.c -a.a")
	ok(t, e.Recover(), e.Halt(1, false, 0, 0), e.Halt(most, false, 0, 0))
	apply(t, e, "", api.OK)
}

// P13: a Halt is a Crash of the disk: what Break said counts no more.
func TestHaltEndsBreak(t *testing.T) {
	for _, behind := range []bool{false, true} {
		e := fresh(t, api.MinRoom)
		ok(t, e.Break(3, 0, 0), e.Halt(1, behind, 0, 0))
		apply(t, e, three, api.ErrDown)
		ok(t, e.Recover())
		apply(t, e, three, api.OK)
	}
}

// P13: breaking off ends neither Refuse nor Halt, and both may be said by who is down.
func TestFaultsOutlastBreaks(t *testing.T) {
	e := fresh(t, api.MinRoom)
	ok(t, e.Refuse(2), e.Halt(3, true, 0, 0), e.Break(3, 0, 0))
	apply(t, e, three, api.ErrDown) // behind call 1
	ok(t, e.Recover())
	apply(t, e, three, api.ErrRefused) // call 2
	ok(t, e.Crash(0, 0), e.Recover())
	apply(t, e, three, api.ErrDown) // call 3
	isDown(t, e)
	ok(t, e.Refuse(1), e.Halt(2, false, 0, 0), e.Recover())
	apply(t, e, three, api.ErrRefused) // call 4
	apply(t, e, three, api.ErrDown)    // not made
	callsAre(t, e, 4)
	ok(t, e.Recover())
	historyIs(t, e, "+a.a +a.b")
}

// P13: a call that is halted ahead counts for Refuse, too, and Halt is looked at first.
func TestHaltAndRefuse(t *testing.T) {
	for _, c := range []struct {
		refuse, halt int
		behind       bool
		calls        int
		files        string
		again        api.Errno
		made         string
	}{
		{1, 1, false, 0, "s1 j1BI", api.OK, three},
		{1, 1, true, 1, "s1 j1BI", api.OK, three},
		{2, 1, false, 0, "s1 j1BI", api.ErrRefused, ""},
		{2, 1, true, 1, "s1 j1BI", api.ErrRefused, "resource a a {}"},
		{2, 2, false, 1, "s1 j1BIDI", api.OK, three},
		{2, 2, true, 2, "s1 j1BIDI", api.OK, three},
		{4, 2, false, 1, "s1 j1BIDI", api.ErrRefused, "resource a a {} resource a b {}"},
	} {
		e := fresh(t, api.MinRoom)
		ok(t, e.Refuse(c.refuse), e.Halt(c.halt, c.behind, 0, 0))
		apply(t, e, three, api.ErrDown)
		callsAre(t, e, c.calls)
		filesAre(t, e, c.files)
		ok(t, e.Recover())
		apply(t, e, three, c.again)
		isBuilt(t, e, c.made)
	}
}

// P16: what was refused, but not answered, is not recorded.
func TestRefusedUnheard(t *testing.T) {
	for _, k := range []int{0, 3, 4} { // at the call; at the Append and the Sync of the Fail
		e := fresh(t, api.MinRoom)
		ok(t, e.Refuse(1), e.Break(k, 0, 0))
		if k == 0 {
			ok(t, e.Halt(1, true, 0, 0))
		}
		apply(t, e, three, api.ErrDown)
		filesAre(t, e, "s1 j1BI")
		ok(t, e.Recover())
		isBuilt(t, e, "")
		filesAre(t, e, "s2 j2B")
		callsAre(t, e, 1)
		apply(t, e, three, api.OK)
		isBuilt(t, e, three)
	}
}
