package disk_test

import (
	"slices"
	"strings"
	"testing"

	"mason/api"
	"mason/disk"
)

// P8: a disk has from MinRoom to MaxRoom bytes.
func TestRoom(t *testing.T) {
	for _, room := range []int{api.MinRoom - 1, api.MaxRoom + 1, 0, -1, -api.MinRoom, most, least} {
		if d, errno := disk.New(room); d != nil || errno != api.ErrArg {
			t.Errorf("New(%d) = %v, %d", room, d, errno)
		}
	}
	for _, room := range []int{api.MinRoom, api.MinRoom + 1, api.MaxRoom} {
		d := fresh(t, room)
		has(t, d, "")
		must(t, "Write beyond the room", d.Write("a", xs(room+1)), api.ErrFull)
		has(t, d, "")
		must(t, "Write of all the room", d.Write("a", xs(room)), api.OK)
		must(t, "Append beyond the room", d.Append("a", "x"), api.ErrFull)
		has(t, d, "a="+xs(room))
	}
}

// refuses: each act that needs a file of that name, and Read, answer that error, and nothing else.
func refuses(t *testing.T, d *disk.Disk, name string, want api.Errno) {
	t.Helper()
	must(t, "Append", d.Append(name, ""), want)
	must(t, "Append of too much", d.Append(name, xs(api.MinRoom+1)), want)
	must(t, "Sync", d.Sync(name), want)
	must(t, "Rename", d.Rename(name, "a"), want)
	must(t, "Rename to the same", d.Rename(name, name), want)
	must(t, "Remove", d.Remove(name), want)
	s, errno := d.Read(name)
	must(t, "Read", errno, want)
	if s != "" {
		t.Errorf("Read(%q) = %q", name, s)
	}
}

// P8, P9: a name must be a word, and that is the first error.
func TestNamesThatAreNoWords(t *testing.T) {
	d := fresh(t, api.MinRoom)
	ok(t, d.Write("a", "x"))
	for _, name := range notWords {
		refuses(t, d, name, api.ErrArg)
		must(t, "Write", d.Write(name, ""), api.ErrArg)
		must(t, "Write of too much", d.Write(name, xs(api.MinRoom+1)), api.ErrArg)
		must(t, "Rename to", d.Rename("a", name), api.ErrArg)
		must(t, "Rename of nothing", d.Rename("q", name), api.ErrArg)
	}
	has(t, d, "a=x")
	d.Crash(0, 1)
	has(t, d, "a=")
}

// P8: the longest word, and one of every byte that may stand in it, are names.
func TestNamesThatAreWords(t *testing.T) {
	d := fresh(t, api.MinRoom)
	for _, name := range []string{"z", "Z", strings.Repeat("a", api.MaxWord), "a_-09zAZ"} {
		must(t, "Write", d.Write(name, ""), api.OK)
	}
	if l := d.Names(); !slices.Equal(l, []string{"Z", "a_-09zAZ", "aaaaaaaaaaaa", "z"}) {
		t.Errorf("Names = %q", l)
	}
}

// P8, P9: ErrFile, where there must be a file and is none; it comes ahead of ErrFull.
func TestFilesThatAreNotThere(t *testing.T) {
	d := fresh(t, api.MinRoom)
	ok(t, d.Write("a", "x"), d.Write("gone", "y"), d.Remove("gone"))
	for _, name := range []string{"q", "gone", "A", "aa"} {
		refuses(t, d, name, api.ErrFile)
	}
	has(t, d, "a=x")
	d.Crash(9, 3)
	has(t, d, "a=x")
}

// P8: what each act does to names and bytes.
func TestActs(t *testing.T) {
	d := fresh(t, api.MinRoom)
	ok(t, d.Write("b", "one"), d.Append("b", ""), d.Append("b", "two"))
	has(t, d, "b=onetwo")
	ok(t, d.Write("a", ""), d.Append("a", "\x00\xff\n"))
	has(t, d, "a=\x00\xff\n b=onetwo")
	ok(t, d.Write("a", "new"))
	has(t, d, "a=new b=onetwo")
	ok(t, d.Sync("a"), d.SyncNames())
	has(t, d, "a=new b=onetwo")
	ok(t, d.Rename("b", "c"))
	has(t, d, "a=new c=onetwo")
	ok(t, d.Rename("c", "a"))
	has(t, d, "a=onetwo")
	ok(t, d.Rename("a", "a"), d.Append("a", "!"))
	has(t, d, "a=onetwo!")
	ok(t, d.Remove("a"))
	has(t, d, "")
	ok(t, d.SyncNames(), d.SyncNames())
	has(t, d, "")
}

// P8: ErrFull: all files that have names count, each bound and one beyond, and nothing is changed.
func TestFull(t *testing.T) {
	d := fresh(t, api.MinRoom)
	ok(t, d.Write("a", xs(400)), d.Write("b", xs(500)))
	must(t, "Write of one too many", d.Write("c", xs(101)), api.ErrFull)
	must(t, "Write in the place of a, of one too many", d.Write("a", xs(501)), api.ErrFull)
	must(t, "Append of one too many", d.Append("a", xs(101)), api.ErrFull)
	has(t, d, "a="+xs(400)+" b="+xs(500))
	ok(t, d.Append("a", xs(100)))
	must(t, "Append to the other one", d.Append("b", "x"), api.ErrFull)
	ok(t, d.Append("b", ""), d.Write("c", ""))
	must(t, "Write", d.Write("d", "x"), api.ErrFull)
	ok(t, d.Write("a", xs(500)), d.Rename("a", "b"))
	has(t, d, "b="+xs(500)+" c=")
	ok(t, d.Append("c", xs(500)), d.Remove("b"), d.Append("c", xs(500)))
	must(t, "Append", d.Append("c", "x"), api.ErrFull)
	ok(t, d.Rename("c", "d"), d.Sync("d"), d.SyncNames())
	must(t, "Append", d.Append("d", "x"), api.ErrFull)
	has(t, d, "d="+xs(1000))
}

// P8: a crash may leave more bytes than there is room for; nothing more may be written then.
func TestFullBehindCrash(t *testing.T) {
	d := fresh(t, api.MinRoom)
	ok(t, d.Write("a", xs(500)), d.Write("b", xs(500)), d.Remove("a"), d.Append("b", xs(400)))
	d.Crash(most, 2)
	has(t, d, "a="+xs(500)+" b="+xs(900))
	must(t, "Append of nothing", d.Append("a", ""), api.ErrFull)
	must(t, "Write of nothing", d.Write("c", ""), api.ErrFull)
	must(t, "Write of one too many", d.Write("a", xs(101)), api.ErrFull)
	ok(t, d.Sync("a"), d.Rename("a", "c"), d.Write("c", xs(100)))
	has(t, d, "b="+xs(900)+" c="+xs(100))
}

// P2, P9: Names is a new list each time, in the order of the names.
func TestNames(t *testing.T) {
	d := fresh(t, api.MinRoom)
	ok(t, d.Write("c", ""), d.Write("a", ""), d.Write("b", ""))
	l := d.Names()
	for i := range l {
		l[i] = "z"
	}
	_ = append(l, "y")
	if l = d.Names(); !slices.Equal(l, []string{"a", "b", "c"}) {
		t.Errorf("Names = %q", l)
	}
}

// P2: disks know nothing of one another.
func TestTwoDisks(t *testing.T) {
	d, e := fresh(t, api.MinRoom), fresh(t, api.MaxRoom)
	ok(t, d.Write("a", "d"), d.Break(1, 0, 0), e.Write("a", "e"), e.Append("a", "e"))
	e.Crash(0, 0)
	has(t, d, "a=d")
	has(t, e, "")
	must(t, "the act that breaks off", d.Append("a", "x"), api.ErrDown)
}
