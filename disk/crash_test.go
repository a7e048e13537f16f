package disk_test

import (
	"testing"

	"mason/api"
	"mason/disk"
)

// P8, P9: the bytes that were there at the last Sync last, and keep more.
func TestCrashBytes(t *testing.T) {
	for _, c := range []struct {
		keep int
		a, b string
	}{{least, "old", ""}, {-1, "old", ""}, {0, "old", ""}, {1, "old1", "n"}, {3, "old123", "new"}, {4, "old1234", "new"}, {5, "old1234", "new"}, {most, "old1234", "new"}} {
		d := fresh(t, api.MinRoom)
		ok(t, d.Write("a", "ol"), d.Append("a", "d"), d.Sync("a"), d.Append("a", "12"), d.Append("a", "34"), d.Write("b", "new"), d.SyncNames())
		d.Crash(c.keep, 0)
		has(t, d, "a="+c.a+" b="+c.b)
		d.Crash(0, 0) // what stayed lasts
		has(t, d, "a="+c.a+" b="+c.b)
		ok(t, d.Append("a", "!"))
		has(t, d, "a="+c.a+"! b="+c.b)
	}
}

// P8: a file that is written anew has no byte that lasts, whatever its name had.
func TestWriteLastsNot(t *testing.T) {
	d := fresh(t, api.MinRoom)
	ok(t, d.Write("a", "old"), d.Sync("a"), d.SyncNames(), d.Write("a", "newer"), d.SyncNames())
	d.Crash(0, 0)
	has(t, d, "a=")
	d = fresh(t, api.MinRoom)
	ok(t, d.Write("a", "old"), d.Sync("a"), d.SyncNames(), d.Write("a", "newer"))
	d.Crash(4, 1)
	has(t, d, "a=newe")
}

// P8: Sync lets the bytes of a file last, not its name, and of no other file.
func TestSyncOfBytesAlone(t *testing.T) {
	d := fresh(t, api.MinRoom)
	ok(t, d.Write("a", "1"), d.Write("b", "2"), d.Sync("b"))
	d.Crash(0, 1)
	has(t, d, "a=")
	d = fresh(t, api.MinRoom)
	ok(t, d.Write("a", "1"), d.Write("b", "2"), d.Sync("b"), d.Append("b", "3"))
	d.Crash(0, 2)
	has(t, d, "a= b=2")
}

// P8: bytes last with the file, under whatever name it has.
func TestBytesGoWithTheFile(t *testing.T) {
	d := fresh(t, api.MinRoom)
	ok(t, d.Write("temp", "state"), d.Sync("temp"), d.Rename("temp", "state"), d.SyncNames(), d.Append("state", "!"))
	d.Crash(0, 0)
	has(t, d, "state=state")
}

// changing: a lasts; then a change of each kind, and bytes that do not last.
func changing(t *testing.T) *disk.Disk {
	t.Helper()
	d := fresh(t, api.MinRoom)
	ok(t, d.Write("a", "A"), d.Sync("a"), d.SyncNames(), d.Append("a", "aa"))
	ok(t, d.Write("b", "Bbb"))                    // 1
	ok(t, d.Rename("b", "c"), d.Append("c", "b")) // 2
	ok(t, d.Rename("c", "c"))                     // 3
	ok(t, d.Write("a", "Xx"))                     // 4
	ok(t, d.Rename("c", "a"))                     // 5
	ok(t, d.Remove("a"))                          // 6
	ok(t, d.Write("a", "Y"))                      // 7
	return d
}

// P9: the first changes stay, and a name goes back to the file that had it.
func TestCrashNames(t *testing.T) {
	for _, c := range []struct {
		names             int
		none, one, plenty string
	}{
		{least, "a=A", "a=Aa", "a=Aaa"},
		{-1, "a=A", "a=Aa", "a=Aaa"},
		{0, "a=A", "a=Aa", "a=Aaa"},
		{1, "a=A b=", "a=Aa b=B", "a=Aaa b=Bbbb"},
		{2, "a=A c=", "a=Aa c=B", "a=Aaa c=Bbbb"},
		{3, "a=A c=", "a=Aa c=B", "a=Aaa c=Bbbb"},
		{4, "a= c=", "a=X c=B", "a=Xx c=Bbbb"},
		{5, "a=", "a=B", "a=Bbbb"},
		{6, "", "", ""},
		{7, "a=", "a=Y", "a=Y"},
		{8, "a=", "a=Y", "a=Y"},
		{most, "a=", "a=Y", "a=Y"},
	} {
		for _, k := range []struct {
			keep int
			want string
		}{{0, c.none}, {1, c.one}, {99, c.plenty}} {
			d := changing(t)
			d.Crash(k.keep, c.names)
			has(t, d, k.want)
			d.Crash(0, 0) // what stayed lasts
			has(t, d, k.want)
			d.Crash(most, most) // what was lost is no more
			has(t, d, k.want)
		}
	}
}

// P8: behind SyncNames only later changes are lost; that does not let bytes last.
func TestSyncNames(t *testing.T) {
	d := changing(t)
	ok(t, d.SyncNames(), d.Write("z", "z"), d.Remove("a"))
	d.Crash(9, 1)
	has(t, d, "a=Y z=z")
	d = changing(t)
	ok(t, d.SyncNames(), d.Write("z", "z"))
	d.Crash(0, 0)
	has(t, d, "a=")
}

// P8: acts with an error are no changes.
func TestErrorsAreNoChanges(t *testing.T) {
	d := fresh(t, api.MinRoom)
	must(t, "Remove", d.Remove("a"), api.ErrFile)
	must(t, "Rename", d.Rename("a", "b"), api.ErrFile)
	must(t, "Write", d.Write("a", xs(1001)), api.ErrFull)
	ok(t, d.Write("a", "1"), d.Write("b", "2"))
	d.Crash(9, 1)
	has(t, d, "a=1")
}

// P9: changes that follow a crash begin with what stayed.
func TestOnBehindCrash(t *testing.T) {
	d := changing(t)
	d.Crash(1, 2)
	ok(t, d.Append("c", "+"), d.Rename("c", "a"), d.Write("c", "new"))
	has(t, d, "a=B+ c=new")
	d.Crash(0, 1)
	has(t, d, "a=B")
}
