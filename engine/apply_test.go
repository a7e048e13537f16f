package engine_test

import (
	"strconv"
	"strings"
	"testing"

	"mason/api"
	"mason/config"
	"mason/engine"
	"mason/journal"
	"mason/plan"
)

// Example 5 of the document.
func TestExample(t *testing.T) {
	e := fresh(t, api.MaxRoom)
	ok(t, e.Halt(1, true, 0, 0))
	apply(t, e, example, api.ErrDown)
	worldIs(t, e, "resource net b {}")
	filesAre(t, e, "s1 j1BI")
	ok(t, e.Recover())
	isBuilt(t, e, "resource net b {}")
	filesAre(t, e, "s2 j2B")
	apply(t, e, example, api.OK)
	isBuilt(t, e, example)
	historyIs(t, e, "+net.b +vm.a")
	filesAre(t, e, "s3 j3B")
}

// P14, P15: one text behind the other; where nothing is to be done there is no checkpoint.
func TestApply(t *testing.T) {
	e := fresh(t, api.MaxRoom)
	for _, c := range []struct {
		text, history, files string
	}{
		{"", "", "s1 j1B"},
		{"# nothing", "", "s1 j1B"},
		{example, "+net.b +vm.a", "s2 j2B"},
		{example, "", "s2 j2B"},
		{"resource net b {} " + strings.Replace(example, "resource net b { }", "", 1), "", "s2 j2B"},
		{"resource net c {} " + example, "+net.c", "s3 j3B"},
		{strings.Replace(example, "size = 3", "size = 4", 1), "~vm.a -net.c", "s4 j4B"},
		{strings.Replace(example, "after = [net.b]", "", 1), "~vm.a", "s5 j5B"},
		{"", "-net.b -vm.a", "s6 j6B"},
	} {
		before := len(told(e.History()))
		apply(t, e, c.text, api.OK)
		isBuilt(t, e, c.text)
		if got := strings.TrimSpace(told(e.History())[before:]); got != c.history {
			t.Errorf("Apply(%q) did %s, want %s", c.text, got, c.history)
		}
		filesAre(t, e, c.files)
		s, _ := e.File("state")
		if _, l, _ := journal.Load(s); printed(t, l) != printed(t, of(t, c.text)) {
			t.Errorf("the state behind %q has %v", c.text, l)
		}
	}
	callsAre(t, e, 8)
}

// P14: ErrDown comes ahead of the errors of Parse, these ahead of ErrMany; nothing is done.
func TestApplyErrors(t *testing.T) {
	e := fresh(t, api.MaxRoom)
	apply(t, e, many("a", api.MaxResources, ""), api.OK)
	wrong := []string{strings.Repeat(" ", api.MaxText+1), ";", "x = \"abc", "resource a b { x = 1 x = 2 }", "resource a b { after = [a.c] }", "resource a b { after = [a.b] }", many("b", api.MaxResources+1, ""), " 3", "resource a b { n = 1000000001 }", "resource abcdefghijklm b {}"}
	before := files(t, e)
	for _, text := range wrong {
		_, errno, place := config.Parse(text)
		if got, at := e.Apply(text); got != errno || at != place || errno == api.OK {
			t.Errorf("Apply(%q) = %d, %d, want %d, %d", text, got, at, errno, place)
		}
	}
	apply(t, e, one, api.ErrMany)
	isBuilt(t, e, many("a", api.MaxResources, ""))
	filesAre(t, e, before)
	callsAre(t, e, api.MaxResources)
	ok(t, e.Crash(0, 0))
	for _, text := range append(wrong, one, "") {
		apply(t, e, text, api.ErrDown)
	}
	isDown(t, e)
	filesAre(t, e, before)
}

// P14: the IDs of what is recorded and of what is wanted are counted once each.
func TestMany(t *testing.T) {
	for have := range api.MaxResources + 1 {
		for same := range have + 1 {
			for other := range api.MaxResources - same + 1 {
				want := api.OK
				if have+other > api.MaxResources {
					want = api.ErrMany
				}
				e := fresh(t, api.MaxRoom)
				apply(t, e, many("a", have, ""), api.OK)
				before := files(t, e)
				text := many("a", same, "x = 1") + many("b", other, "")
				apply(t, e, text, want)
				if want == api.OK {
					isBuilt(t, e, text)
				} else {
					isBuilt(t, e, many("a", have, ""))
					filesAre(t, e, before)
				}
			}
		}
	}
}

// P14: all Intents, Dones and Fails of an Apply, with their tokens; they are seen if the checkpoint breaks off.
func TestRecords(t *testing.T) {
	for _, refused := range []int{0, 1, 2, 4} {
		e := fresh(t, api.MaxRoom)
		have, want := "resource a a {} resource a b { after = [a.a] } resource a c {}", "resource a c { x = 1 } resource a d { after = [a.c] }"
		apply(t, e, have, api.OK)
		steps, _ := plan.Steps(of(t, have), of(t, want))
		calls := len(steps)
		if refused > 0 {
			calls = refused
		}
		ok(t, e.Refuse(refused), e.Break(4*calls+1, 0, 0))
		apply(t, e, want, api.ErrDown)
		s, _ := e.File("journal")
		l, size := journal.Scan(s)
		if len(l) != 1+2*calls || size != len(s) {
			t.Fatalf("the journal is %s", log(s))
		}
		for i, step := range steps[:calls] {
			token := api.Token{Epoch: 2, Number: i}
			intent, end := l[1+2*i], l[2+2*i]
			kind := api.Done
			if i+1 == refused {
				kind = api.Fail
			}
			if intent.Kind != api.Intent || intent.Token != token || told([]api.Step{intent.Step}) != told([]api.Step{step}) || end.Kind != kind || end.Token != token {
				t.Errorf("step %d: the journal has %+v, %+v", i, intent, end)
			}
			if got, want := printed(t, []api.Resource{intent.Step.Resource}), printed(t, []api.Resource{step.Resource}); got != want {
				t.Errorf("step %d: the Intent is of %q, want %q", i, got, want)
			}
		}
		callsAre(t, e, 3+calls)
	}
}

// big is a text of n resources, which differ in how many bytes they have.
func big(n int) string {
	s := ""
	for i := range n {
		number := strconv.Itoa(i)
		s += "resource kind name" + string(rune('a'+i)) + " { text1 = \"" + strings.Repeat("x", 20-i) + "\" text2 = \"" + strings.Repeat("y", 20) + "\" n = " + number + " m = 1 o = 2 p = 3 }\n"
	}
	return s
}

func resourceSize(r api.Resource) int {
	n := 2 + len(r.ID.Kind) + len(r.ID.Name) + 2
	for _, a := range r.Attrs {
		n += 1 + len(a.Name) + 1
		if a.IsText {
			n += 1 + len(a.Text)
		} else {
			n += 4
		}
	}
	for _, id := range r.After {
		n += 2 + len(id.Kind) + len(id.Name)
	}
	return n
}

// needs tells how much room each step of a plan asks for.
func needs(t *testing.T, have, want string) []int {
	t.Helper()
	steps, errno := plan.Steps(of(t, have), of(t, want))
	must(t, "Steps", errno, api.OK)
	sizes := map[api.ID]int{}
	state := 4 + 3 + 1 + 4
	for _, r := range of(t, have) {
		sizes[r.ID] = resourceSize(r)
		state += sizes[r.ID]
	}
	var l []int
	used := state + 13
	for _, s := range steps {
		size := resourceSize(s.Resource)
		used += 6 + 7 + 1 + size + 13
		if s.Op == api.Delete {
			size = 0
		}
		with := state - sizes[s.Resource.ID] + size
		l = append(l, used+max(state, with))
		state, sizes[s.Resource.ID] = with, size
	}
	return l
}

// P14: ErrFull by room: just as much room as a step asks for, and one byte less.
func TestFull(t *testing.T) {
	for _, c := range []struct{ have, want string }{
		{"", big(12)},
		{big(5), ""},
		{big(8), big(4)},
		{big(6), strings.ReplaceAll(big(6), "xx", "")},
		{strings.ReplaceAll(big(6), "x", ""), big(6)},
		{big(3) + many("a", 4, ""), strings.ReplaceAll(big(7), "x", "")},
		{many("a", 6, "") + "resource z z { after = [a.n0, a.n1, a.n2, a.n3, a.n4, a.n5] }", big(3)},
	} {
		l := needs(t, c.have, c.want)
		tested := 0
		for _, need := range l {
			for _, room := range []int{need - 1, need, need + 1} {
				if room >= api.MinRoom {
					fillsAt(t, room, c.have, c.want, l)
					tested++
				}
			}
		}
		if tested < 3 {
			t.Errorf("of %v only %d are tested", l, tested)
		}
	}
}

// builtBits is an engine in which a text is built, in as many goes as it takes.
func builtBits(t *testing.T, room int, text string) *engine.Engine {
	t.Helper()
	e := fresh(t, room)
	for range api.MaxResources {
		if errno, _ := e.Apply(text); errno == api.OK {
			return e
		}
	}
	t.Fatalf("a room of %d is too little for %q", room, text)
	return nil
}

func fillsAt(t *testing.T, room int, have, want string, needs []int) {
	t.Helper()
	e := builtBits(t, room, have)
	before, calls, old := len(e.History()), e.Calls(), files(t, e)
	done := 0
	for done < len(needs) && needs[done] <= room {
		done++
	}
	answer := api.OK
	if done < len(needs) {
		answer = api.ErrFull
	}
	apply(t, e, want, answer)
	if got := len(e.History()) - before; got != done {
		t.Fatalf("in a room of %d, of steps that need %v, %d are done", room, needs, got)
	}
	if printed(t, recorded(t, e)) != printed(t, e.World()) {
		t.Fatalf("recorded is not what is in the world")
	}
	callsAre(t, e, calls+done)
	if checkpoint := files(t, e) != old; checkpoint != (done > 0) {
		t.Fatalf("%d steps are done: the files are %s behind %s", done, files(t, e), old)
	}
}

// P14, P15: who is full has a checkpoint, and so room for more; in the end the state itself is too great.
func TestFullAgain(t *testing.T) {
	e := fresh(t, 1600)
	answer, done := api.ErrFull, 0
	for answer == api.ErrFull {
		answer, _ = e.Apply(big(12))
		if len(e.World()) == done {
			break
		}
		done = len(e.World())
	}
	must(t, "Apply of what has no room", answer, api.ErrFull)
	if done < 3 || done == 12 {
		t.Fatalf("%d are made", done)
	}
	before := files(t, e)
	apply(t, e, big(12), api.ErrFull)
	filesAre(t, e, before)
	isBuilt(t, e, big(done))
	apply(t, e, big(done), api.OK)
}

// P14: who is full while the checkpoint breaks off is down.
func TestFullAndDown(t *testing.T) {
	e := fresh(t, api.MinRoom)
	fits := 0
	for _, need := range needs(t, "", big(12)) {
		if need <= api.MinRoom {
			fits++
		}
	}
	ok(t, e.Break(4*fits+3, 0, 2)) // the Rename
	apply(t, e, big(12), api.ErrDown)
	filesAre(t, e, "s2 j1B"+strings.Repeat("ID", fits))
	ok(t, e.Recover())
	isBuilt(t, e, big(fits))
}
