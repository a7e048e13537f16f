package disk_test

import (
	"testing"

	"mason/api"
	"mason/disk"
)

// P9: k below 0 is ErrArg, and changes nothing: an earlier Break counts on.
func TestBreakBelowNone(t *testing.T) {
	d := fresh(t, api.MinRoom)
	ok(t, d.Break(2, 1, 1))
	for _, k := range []int{-1, -2, least} {
		must(t, "Break", d.Break(k, 9, 9), api.ErrArg)
	}
	ok(t, d.Write("a", "123"))
	must(t, "the act that breaks off", d.Append("a", "4"), api.ErrDown)
	has(t, d, "a=1")
}

// P9: 0 is none, the last Break is what counts, and what breaks off breaks off once.
func TestBreakLast(t *testing.T) {
	d := fresh(t, api.MinRoom)
	ok(t, d.Break(1, 0, 0), d.Break(0, 0, 0), d.Write("a", "1"), d.Write("b", "2"))
	ok(t, d.Break(1, 0, 0), d.Break(3, 9, 9), d.Append("a", "2"), d.Append("a", "3"))
	must(t, "the act that breaks off", d.Append("a", "4"), api.ErrDown)
	has(t, d, "a=1234 b=2")
	ok(t, d.Append("a", "5"), d.Append("a", "6"), d.Append("a", "7"), d.Append("a", "8"))
	d.Crash(0, 0)
	has(t, d, "a=1234 b=2")
	ok(t, d.Break(most, 0, 0), d.Append("a", "5"), d.Sync("a"))
	has(t, d, "a=12345 b=2")
}

// P9: a Crash ends what Break said.
func TestCrashEndsBreak(t *testing.T) {
	d := fresh(t, api.MinRoom)
	ok(t, d.Write("a", ""), d.Break(2, 0, 0), d.Append("a", "1"))
	d.Crash(1, 1)
	ok(t, d.Append("a", "2"), d.Append("a", "3"), d.SyncNames())
	has(t, d, "a=123")
}

// P9: reading and asking are no acts; acts that answer an error are.
func TestWhatCounts(t *testing.T) {
	d := fresh(t, api.MinRoom)
	ok(t, d.Write("a", "1"), d.SyncNames(), d.Break(8, 9, 9))
	d.Read("a")
	d.Read("q")
	d.Names()
	must(t, "act 1", d.Write("9", ""), api.ErrArg)
	must(t, "act 2", d.Append("q", ""), api.ErrFile)
	must(t, "act 3", d.Write("b", xs(1000)), api.ErrFull)
	must(t, "act 4", d.Sync("q"), api.ErrFile)
	must(t, "act 5", d.Rename("q", "a"), api.ErrFile)
	must(t, "act 6", d.Remove("q"), api.ErrFile)
	must(t, "act 7", d.SyncNames(), api.OK)
	must(t, "act 8", d.Append("a", "2"), api.ErrDown)
	has(t, d, "a=12")
}

// acts are all kinds of acts, and errors among them, on a disk that has the files a and b.
func acts() []func(*disk.Disk) api.Errno {
	return []func(*disk.Disk) api.Errno{
		func(d *disk.Disk) api.Errno { return d.Append("a", "123") },
		func(d *disk.Disk) api.Errno { return d.Write("c", "new") },
		func(d *disk.Disk) api.Errno { return d.Sync("a") },
		func(d *disk.Disk) api.Errno { return d.Rename("b", "a") },
		func(d *disk.Disk) api.Errno { return d.Remove("q") },
		func(d *disk.Disk) api.Errno { return d.Sync("c") },
		func(d *disk.Disk) api.Errno { return d.SyncNames() },
		func(d *disk.Disk) api.Errno { return d.Append("c", xs(1000)) },
		func(d *disk.Disk) api.Errno { return d.Append("c", "45") },
		func(d *disk.Disk) api.Errno { return d.Write("c", "newer") },
		func(d *disk.Disk) api.Errno { return d.Rename("a", "9") },
		func(d *disk.Disk) api.Errno { return d.Sync("q") },
		func(d *disk.Disk) api.Errno { return d.Remove("a") },
		func(d *disk.Disk) api.Errno { return d.Rename("c", "c") },
		func(d *disk.Disk) api.Errno { return d.SyncNames() },
		func(d *disk.Disk) api.Errno { return d.Append("c", "") },
	}
}

// syncs are the places in acts of those that do nothing when they break off.
func syncs(i int) bool { return i == 2 || i == 5 || i == 6 || i == 11 || i == 14 }

func two(t *testing.T) *disk.Disk {
	t.Helper()
	d := fresh(t, api.MinRoom)
	ok(t, d.Write("a", "A"), d.Write("b", "B"), d.Sync("a"), d.SyncNames())
	return d
}

// P9: at each act, with each keep and names, breaking off is the act (a sync: nothing) and a Crash.
func TestBreakAtEachAct(t *testing.T) {
	for k := range acts() {
		for keep := -1; keep <= 6; keep++ {
			for names := -1; names <= 5; names++ {
				breaksAt(t, k, keep, names)
			}
		}
	}
}

func breaksAt(t *testing.T, k, keep, names int) {
	t.Helper()
	broken, crashed := two(t), two(t)
	ok(t, broken.Break(k+1, keep, names))
	for i, act := range acts()[:k+1] {
		want := api.ErrDown
		if i < k {
			want = act(crashed)
		} else if !syncs(i) {
			act(crashed)
		}
		must(t, "an act", act(broken), want)
	}
	crashed.Crash(keep, names)
	has(t, broken, content(t, crashed))
	broken.Crash(0, 0) // what stayed lasts
	has(t, broken, content(t, crashed))
}

// P9: some of these, written out.
func TestBreakOfEachKind(t *testing.T) {
	for _, c := range []struct {
		what        string
		act         func(*disk.Disk) api.Errno
		keep, names int
		want        string
	}{
		{"Write", func(d *disk.Disk) api.Errno { return d.Write("c", "new") }, 2, 1, "a=A b=B c=ne"},
		{"Write, its change lost", func(d *disk.Disk) api.Errno { return d.Write("a", "new") }, 2, 0, "a=A b=B"},
		{"Write of too much", func(d *disk.Disk) api.Errno { return d.Write("a", xs(1000)) }, 2, 1, "a=A b=B"},
		{"Write of no word", func(d *disk.Disk) api.Errno { return d.Write("9", "") }, 2, 1, "a=A b=B"},
		{"Append", func(d *disk.Disk) api.Errno { return d.Append("a", "123") }, 2, 1, "a=A12 b=B"},
		{"Append, its bytes lost", func(d *disk.Disk) api.Errno { return d.Append("a", "123") }, 0, 1, "a=A b="},
		{"Append to nothing", func(d *disk.Disk) api.Errno { return d.Append("q", "") }, 2, 1, "a=A b=B"},
		{"Sync", func(d *disk.Disk) api.Errno { return d.Sync("b") }, 0, 1, "a=A b="},
		{"Sync of nothing", func(d *disk.Disk) api.Errno { return d.Sync("q") }, 1, 1, "a=A b=B"},
		{"Rename", func(d *disk.Disk) api.Errno { return d.Rename("b", "a") }, 1, 1, "a=B"},
		{"Rename, its change lost", func(d *disk.Disk) api.Errno { return d.Rename("b", "a") }, 1, 0, "a=A b=B"},
		{"Remove", func(d *disk.Disk) api.Errno { return d.Remove("b") }, 1, 1, "a=A"},
		{"Remove, its change lost", func(d *disk.Disk) api.Errno { return d.Remove("b") }, 1, 0, "a=A b=B"},
	} {
		d := two(t)
		ok(t, d.Break(1, c.keep, c.names))
		must(t, c.what, c.act(d), api.ErrDown)
		has(t, d, c.want)
	}
	d := two(t)
	ok(t, d.Write("c", "new"), d.Remove("a"), d.Break(1, 1, 1))
	must(t, "SyncNames", d.SyncNames(), api.ErrDown)
	has(t, d, "a=A b=B c=n")
}
