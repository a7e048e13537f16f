package engine_test

import (
	"strconv"
	"strings"
	"testing"

	"mason/api"
	"mason/config"
	"mason/engine"
	"mason/journal"
)

const (
	most  = 1<<63 - 1
	least = -1 << 63
)

// one makes one thing; example is that of the document.
const (
	one     = "resource net b { x = 1 }"
	example = `resource vm a { size = 3 name = "x\ny" after = [net.b] } resource net b { }`
)

func fresh(t *testing.T, room int) *engine.Engine {
	t.Helper()
	e, errno := engine.New(room)
	if e == nil || errno != api.OK {
		t.Fatalf("New(%d) = %v, %d", room, e, errno)
	}
	return e
}

func must(t *testing.T, what string, got, want api.Errno) {
	t.Helper()
	if got != want {
		t.Fatalf("%s = %d, want %d", what, got, want)
	}
}

func ok(t *testing.T, l ...api.Errno) {
	t.Helper()
	for i, errno := range l {
		if errno != api.OK {
			t.Fatalf("call %d = %d", i, errno)
		}
	}
}

// apply asks for an answer that has the place 0.
func apply(t *testing.T, e *engine.Engine, text string, want api.Errno) {
	t.Helper()
	if errno, place := e.Apply(text); errno != want || place != 0 {
		t.Fatalf("Apply(%q) = %d, %d, want %d", text, errno, place, want)
	}
}

// of is the resources of a text.
func of(t *testing.T, text string) []api.Resource {
	t.Helper()
	l, errno, place := config.Parse(text)
	if errno != api.OK {
		t.Fatalf("Parse(%q) = %d at %d", text, errno, place)
	}
	return l
}

func printed(t *testing.T, l []api.Resource) string {
	t.Helper()
	s, errno := config.Print(l)
	must(t, "Print", errno, api.OK)
	return s
}

func recorded(t *testing.T, e *engine.Engine) []api.Resource {
	t.Helper()
	l, errno := e.Recorded()
	must(t, "Recorded", errno, api.OK)
	return l
}

// worldIs asks for a world that is as a text wants it.
func worldIs(t *testing.T, e *engine.Engine, text string) {
	t.Helper()
	if got, want := printed(t, e.World()), printed(t, of(t, text)); got != want {
		t.Fatalf("the world is %q, want %q", got, want)
	}
}

// isBuilt asks for an engine that is up, and for a world and a record of it that are as a text wants them.
func isBuilt(t *testing.T, e *engine.Engine, text string) {
	t.Helper()
	worldIs(t, e, text)
	if got, want := printed(t, recorded(t, e)), printed(t, of(t, text)); got != want {
		t.Fatalf("recorded is %q, want %q", got, want)
	}
}

func isDown(t *testing.T, e *engine.Engine) {
	t.Helper()
	if l, errno := e.Recorded(); l != nil || errno != api.ErrDown {
		t.Fatalf("Recorded of who is down = %v, %d", l, errno)
	}
}

// told is steps as "+a.b ~a.b -a.b".
func told(l []api.Step) string {
	var words []string
	for _, s := range l {
		words = append(words, string(" +~-"[s.Op])+s.Resource.ID.Kind+"."+s.Resource.ID.Name)
	}
	return strings.Join(words, " ")
}

func historyIs(t *testing.T, e *engine.Engine, want string) {
	t.Helper()
	if got := told(e.History()); got != want {
		t.Fatalf("the history is %s, want %s", got, want)
	}
}

func callsAre(t *testing.T, e *engine.Engine, want int) {
	t.Helper()
	if got := e.Calls(); got != want {
		t.Fatalf("Calls = %d, want %d", got, want)
	}
}

// state tells a state as its epoch, or how many bytes there are that are none.
func state(s string) string {
	epoch, _, errno := journal.Load(s)
	if errno != api.OK {
		return strconv.Itoa(len(s)) + "bytes"
	}
	return "s" + strconv.Itoa(epoch)
}

// log tells a journal as its epoch, the kinds of its records, and how many bytes are behind them.
func log(s string) string {
	l, size := journal.Scan(s)
	tells := "j"
	if len(l) > 0 {
		tells += strconv.Itoa(l[0].Token.Epoch)
	}
	for _, r := range l {
		tells += string(" BIDF"[r.Kind])
	}
	if size < len(s) {
		tells += "+" + strconv.Itoa(len(s)-size)
	}
	return tells
}

// files tells the files, as "s1 j1BID temp:s2".
func files(t *testing.T, e *engine.Engine) string {
	t.Helper()
	s, errno := e.File("state")
	must(t, "File of state", errno, api.OK)
	j, errno := e.File("journal")
	must(t, "File of journal", errno, api.OK)
	tells := state(s) + " " + log(j)
	if temp, errno := e.File("temp"); errno == api.OK {
		tells += " temp:" + state(temp)
	}
	return tells
}

func filesAre(t *testing.T, e *engine.Engine, want string) {
	t.Helper()
	if got := files(t, e); got != want {
		t.Fatalf("the files are %s, want %s", got, want)
	}
}

// many is a text of n resources of a kind, with something in each.
func many(kind string, n int, inside string) string {
	s := ""
	for i := range n {
		s += "resource " + kind + " n" + strconv.Itoa(i) + " { " + inside + " }\n"
	}
	return s
}
