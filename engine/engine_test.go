package engine_test

import (
	"runtime"
	"slices"
	"strings"
	"testing"
	"time"

	"mason/api"
	"mason/engine"
	"mason/journal"
)

// P12: the bounds of room, and one beyond.
func TestNewRoom(t *testing.T) {
	for _, room := range []int{least, -1, 0, 1, api.MinRoom - 1, api.MaxRoom + 1, most} {
		if e, errno := engine.New(room); e != nil || errno != api.ErrArg {
			t.Errorf("New(%d) = %v, %d", room, e, errno)
		}
	}
	for _, room := range []int{api.MinRoom, api.MinRoom + 1, api.MaxRoom - 1, api.MaxRoom} {
		fresh(t, room)
	}
}

// P12: what a new engine has, byte for byte, and that it lasts.
func TestNew(t *testing.T) {
	e := fresh(t, api.MinRoom)
	for _, crash := range []bool{false, true} {
		if crash {
			ok(t, e.Crash(0, 0))
		} else {
			isBuilt(t, e, "")
		}
		body := "\x01\x00\x00\x01\x00\x00\x00"
		n := journal.Sum(body)
		begin := "\x00\x07" + string([]byte{byte(n >> 24), byte(n >> 16), byte(n >> 8), byte(n)}) + body
		if s, errno := e.File("journal"); s != begin || errno != api.OK {
			t.Errorf("the journal is %q, %d, want %q", s, errno, begin)
		}
		want, _ := journal.State(1, nil)
		if s, errno := e.File("state"); s != want || errno != api.OK {
			t.Errorf("the state is %q, %d, want %q", s, errno, want)
		}
		_, errno := e.File("temp")
		must(t, "File of temp", errno, api.ErrFile)
		if len(e.World()) != 0 || len(e.History()) != 0 || e.Calls() != 0 {
			t.Errorf("something is there: %v, %v, %d", e.World(), e.History(), e.Calls())
		}
	}
}

// P17: Crash of who is up, and of who is down.
func TestCrash(t *testing.T) {
	for _, n := range []int{least, -1, 0, 1, most} {
		e := fresh(t, api.MinRoom)
		apply(t, e, example, api.OK)
		ok(t, e.Break(1, 0, 0), e.Crash(n, n)) // a Crash ends what Break said
		isDown(t, e)
		filesAre(t, e, "s2 j2B")
		worldIs(t, e, example)
		must(t, "Crash again", e.Crash(n, n), api.ErrDown)
		apply(t, e, "", api.ErrDown)
		ok(t, e.Recover())
		isBuilt(t, e, example)
		filesAre(t, e, "s2 j2B")
		callsAre(t, e, 2)
	}
}

// P17: Crash of who is down is not even a Crash of its disk.
func TestCrashOfDown(t *testing.T) {
	e := fresh(t, api.MinRoom)
	ok(t, e.Crash(0, 0), e.Break(1, 0, 0))
	must(t, "Crash of who is down", e.Crash(0, 0), api.ErrDown)
	must(t, "Recover: the Break counts on", e.Recover(), api.ErrDown)
	ok(t, e.Recover())
}

// P16: Recover of who is up is ErrArg, and changes nothing.
func TestRecoverOfUp(t *testing.T) {
	e := fresh(t, api.MinRoom)
	apply(t, e, example, api.OK)
	ok(t, e.Break(1, 0, 0))
	must(t, "Recover of who is up", e.Recover(), api.ErrArg)
	isBuilt(t, e, example)
	apply(t, e, example, api.OK) // without an act
	apply(t, e, "", api.ErrDown) // the Break counts still
}

// P13, P17: numbers below 0, and that an earlier one counts on.
func TestBelowNone(t *testing.T) {
	for _, k := range []int{least, -2, -1} {
		e := fresh(t, api.MinRoom)
		ok(t, e.Refuse(1))
		must(t, "Refuse", e.Refuse(k), api.ErrArg)
		apply(t, e, one, api.ErrRefused)
		ok(t, e.Halt(1, true, 0, 0))
		must(t, "Halt", e.Halt(k, false, 9, 9), api.ErrArg)
		apply(t, e, one, api.ErrDown)
		callsAre(t, e, 2)
		ok(t, e.Recover(), e.Break(2, 0, 0))
		must(t, "Break", e.Break(k, 9, 9), api.ErrArg)
		apply(t, e, "", api.ErrDown)
		filesAre(t, e, "s3 j3B")
	}
}

// P18: File is Read of the disk, up or down.
func TestFile(t *testing.T) {
	e := fresh(t, api.MinRoom)
	for range 2 {
		for _, name := range []string{"", "9", "a b", "-", "state ", strings.Repeat("a", api.MaxWord+1)} {
			if s, errno := e.File(name); s != "" || errno != api.ErrArg {
				t.Errorf("File(%q) = %q, %d", name, s, errno)
			}
		}
		for _, name := range []string{"temp", "State", "a", strings.Repeat("a", api.MaxWord)} {
			if s, errno := e.File(name); s != "" || errno != api.ErrFile {
				t.Errorf("File(%q) = %q, %d", name, s, errno)
			}
		}
		ok(t, e.Break(1, 0, 0)) // File is no act
		filesAre(t, e, "s1 j1B")
		e.Crash(0, 0)
	}
}

// P18: what is there and what is recorded come by rising IDs, steps as they were done; P2: as new memory.
func TestAnswersAreNew(t *testing.T) {
	e := fresh(t, api.MaxRoom)
	texts := []string{`resource z a { n = 1 t = "x" after = [a.z, b.a] } resource a z { } resource b a { n = 2 }`, `resource a z { n = 5 } resource b a { n = 2 after = [a.z] }`}
	for _, text := range texts {
		apply(t, e, text, api.OK)
	}
	for range 2 {
		isBuilt(t, e, texts[1])
		historyIs(t, e, "+a.z +b.a +z.a ~a.z ~b.a -z.a")
		h := e.History()
		if got, want := printed(t, []api.Resource{h[5].Resource}), printed(t, of(t, texts[0])[2:]); got != want {
			t.Errorf("what was taken away is %q, want %q", got, want)
		}
		spoil(e.World())
		spoil(recorded(t, e))
		for i := range h {
			spoil([]api.Resource{h[i].Resource})
		}
		clear(h)
	}
}

// spoil writes into all lists, and behind them.
func spoil(l []api.Resource) {
	for _, r := range l {
		for i := range r.Attrs {
			r.Attrs[i].Number = 99
		}
		for i := range r.After {
			r.After[i].Name = "spoilt"
		}
		_ = append(r.Attrs, api.Attr{Name: "spoilt"})
		_ = append(r.After, api.ID{Name: "spoilt"})
	}
	_ = append(l, api.Resource{})
	clear(l)
}

// P2: no two lists of two answers share room, what stands behind their ends neither.
func TestAnswersShareNothing(t *testing.T) {
	e := fresh(t, api.MaxRoom)
	apply(t, e, `resource a z { n = 1 t = "x" after = [b.a] } resource b a { }`, api.OK)
	var attrs []*api.Attr
	add := func(r api.Resource) {
		for i := range r.Attrs[:cap(r.Attrs)] {
			attrs = append(attrs, &r.Attrs[:cap(r.Attrs)][i])
		}
	}
	for range 2 {
		for _, r := range slices.Concat(e.World(), recorded(t, e)) {
			add(r)
		}
		for _, s := range e.History() {
			add(s.Resource)
		}
	}
	for i, a := range attrs {
		if slices.Contains(attrs[:i], a) {
			t.Fatal("two answers share room")
		}
	}
}

// P2: engines know nothing of one another.
func TestEnginesApart(t *testing.T) {
	a, b := fresh(t, api.MinRoom), fresh(t, api.MinRoom)
	ok(t, a.Refuse(1), a.Halt(2, true, 0, 0), a.Break(30, 0, 0))
	apply(t, b, example, api.OK)
	isBuilt(t, a, "")
	apply(t, a, one, api.ErrRefused)
	apply(t, a, one, api.ErrDown)
	isBuilt(t, b, example)
	filesAre(t, b, "s2 j2B")
	callsAre(t, b, 2)
}

// P1: the world works no more when Apply answers, whatever it answers, and its goroutine ends.
func TestGoroutinesEnd(t *testing.T) {
	before := runtime.NumGoroutine()
	for range 50 {
		e := fresh(t, api.MinRoom)
		apply(t, e, "", api.OK)
		worksNoMore(t)
		apply(t, e, example, api.OK)
		worksNoMore(t)
		ok(t, e.Refuse(1))
		apply(t, e, "", api.ErrRefused)
		worksNoMore(t)
		for _, behind := range []bool{false, true} {
			ok(t, e.Halt(1, behind, 0, 0))
			apply(t, e, "", api.ErrDown)
			worksNoMore(t)
			ok(t, e.Recover())
		}
		ok(t, e.Break(2, 0, 0))
		apply(t, e, "", api.ErrDown)
		worksNoMore(t)
	}
	// One that has nothing more to do may still be counted for a moment.
	for i := 0; runtime.NumGoroutine() > before; i++ {
		if i == 1000 {
			t.Fatalf("%d goroutines, there were %d", runtime.NumGoroutine(), before)
		}
		time.Sleep(time.Millisecond)
	}
}

// worksNoMore looks through what all goroutines are doing for the work of a world.
func worksNoMore(t *testing.T) {
	t.Helper()
	stacks := make([]byte, 1<<20)
	if s := string(stacks[:runtime.Stack(stacks, true)]); strings.Contains(s, ".Serve(") {
		t.Fatalf("a world works still:\n%s", s)
	}
}
