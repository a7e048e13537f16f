package engine_test

import (
	"maps"
	"slices"
	"strings"
	"testing"

	"mason/api"
	"mason/config"
	"mason/disk"
	"mason/engine"
	"mason/journal"
	"mason/plan"
	"mason/rules"
)

// model is an engine that reads all it needs from its disk, and falls out of what it does by a panic when it breaks off.
type model struct {
	room        int
	d           *disk.Disk
	up          bool
	recorded    map[api.ID]api.Resource
	world       map[api.ID]api.Resource
	known       map[api.Token]int // 1: done, 2: refused
	history     []api.Step
	calls       int
	refuse      int
	halt        int
	behind      bool
	keep, names int
}

type off struct{}

func newModel(room int) *model {
	m := &model{room: room, up: true, recorded: map[api.ID]api.Resource{}, world: map[api.ID]api.Resource{}, known: map[api.Token]int{}}
	m.d, _ = disk.New(room)
	m.d.Write("state", m.state(1))
	m.d.Write("journal", framed(api.Record{Kind: api.Begin, Token: api.Token{Epoch: 1}}))
	m.d.Sync("state")
	m.d.Sync("journal")
	m.d.SyncNames()
	return m
}

// act asks that an act was OK, if it did not break off.
func act(errno api.Errno) {
	if errno == api.ErrDown {
		panic(off{})
	}
	if errno != api.OK {
		panic("an act of the model has an error")
	}
}

// untilOff does what may break off.
func (m *model) untilOff(do func() api.Errno) (errno api.Errno) {
	defer func() {
		x := recover()
		if x == nil {
			return
		}
		if _, is := x.(off); !is {
			panic(x)
		}
		m.up, errno = false, api.ErrDown
	}()
	return do()
}

func framed(r api.Record) string {
	s, errno := journal.Encode(r)
	if errno != api.OK {
		panic("a record of the model may not be")
	}
	n := journal.Sum(s)
	return string([]byte{byte(len(s) >> 8), byte(len(s)), byte(n >> 24), byte(n >> 16), byte(n >> 8), byte(n)}) + s
}

func inOrder(l map[api.ID]api.Resource) []api.Resource {
	return slices.SortedFunc(maps.Values(l), func(a, b api.Resource) int { return rules.CompareIDs(a.ID, b.ID) })
}

func doTo(l map[api.ID]api.Resource, s api.Step) {
	if s.Op == api.Delete {
		delete(l, s.Resource.ID)
	} else {
		l[s.Resource.ID] = s.Resource
	}
}

func (m *model) state(epoch int) string {
	s, errno := journal.State(epoch, inOrder(m.recorded))
	if errno != api.OK {
		panic("what the model has recorded is not whole")
	}
	return s
}

func (m *model) read(name string) string {
	s, _ := m.d.Read(name)
	return s
}

func (m *model) epoch() int {
	epoch, _, errno := journal.Load(m.read("state"))
	if errno != api.OK {
		panic("the state of the model is none")
	}
	return epoch
}

// intents are all those that stand in the journal, of whatever epoch it is.
func (m *model) intents() int {
	n := 0
	l, _ := journal.Scan(m.read("journal"))
	for _, r := range l {
		if r.Kind == api.Intent {
			n++
		}
	}
	return n
}

func (m *model) apply(text string) (api.Errno, int) {
	if !m.up {
		return api.ErrDown, 0
	}
	want, errno, place := config.Parse(text)
	if errno != api.OK {
		return errno, place
	}
	all := maps.Clone(m.recorded)
	for _, r := range want {
		all[r.ID] = r
	}
	if len(all) > api.MaxResources {
		return api.ErrMany, 0
	}
	steps, _ := plan.Steps(inOrder(m.recorded), want)
	return m.untilOff(func() api.Errno {
		answer := api.OK
		for i := 0; i < len(steps) && answer == api.OK; i++ {
			answer = m.step(steps[i])
		}
		if m.intents() > 0 {
			m.checkpoint(m.epoch() + 1)
		}
		return answer
	}), 0
}

func (m *model) step(s api.Step) api.Errno {
	token := api.Token{Epoch: m.epoch(), Number: m.intents()}
	intent := framed(api.Record{Kind: api.Intent, Token: token, Step: s})
	done := framed(api.Record{Kind: api.Done, Token: token})
	need := len(intent) + len(done)
	for _, name := range m.d.Names() {
		need += len(m.read(name))
	}
	without := m.state(token.Epoch + 1)
	old, was := m.recorded[s.Resource.ID]
	doTo(m.recorded, s)
	with := m.state(token.Epoch + 1)
	delete(m.recorded, s.Resource.ID)
	if was {
		m.recorded[s.Resource.ID] = old
	}
	if m.room < need+max(len(without), len(with)) {
		return api.ErrFull
	}
	act(m.d.Append("journal", intent))
	act(m.d.Sync("journal"))
	if !m.call(token, s) {
		act(m.d.Append("journal", framed(api.Record{Kind: api.Fail, Token: token})))
		act(m.d.Sync("journal"))
		return api.ErrRefused
	}
	act(m.d.Append("journal", done))
	act(m.d.Sync("journal"))
	doTo(m.recorded, s)
	return api.OK
}

func (m *model) call(token api.Token, s api.Step) bool {
	halts, refuses := m.halt == 1, m.refuse == 1
	m.halt, m.refuse = max(m.halt-1, 0), max(m.refuse-1, 0)
	if halts && !m.behind {
		m.d.Crash(m.keep, m.names)
		panic(off{})
	}
	m.calls++
	if m.known[token] != 0 {
		panic("the model calls with a token for the second time")
	}
	m.known[token] = 2
	if !refuses {
		m.known[token] = 1
		doTo(m.world, s)
		m.history = append(m.history, s)
	}
	if halts {
		m.d.Crash(m.keep, m.names)
		panic(off{})
	}
	return m.known[token] == 1
}

func (m *model) checkpoint(epoch int) {
	act(m.d.Write("temp", m.state(epoch)))
	act(m.d.Sync("temp"))
	act(m.d.Rename("temp", "state"))
	act(m.d.SyncNames())
	m.begin(epoch)
}

func (m *model) begin(epoch int) {
	act(m.d.Write("journal", framed(api.Record{Kind: api.Begin, Token: api.Token{Epoch: epoch}})))
	act(m.d.Sync("journal"))
	act(m.d.SyncNames())
}

func (m *model) recover() api.Errno {
	if m.up {
		return api.ErrArg
	}
	return m.untilOff(func() api.Errno {
		if _, errno := m.d.Read("temp"); errno == api.OK {
			act(m.d.Remove("temp"))
		}
		epoch, l, _ := journal.Load(m.read("state"))
		m.recorded = map[api.ID]api.Resource{}
		for _, r := range l {
			m.recorded[r.ID] = r
		}
		records, _ := journal.Scan(m.read("journal"))
		if len(records) == 0 || records[0].Kind != api.Begin || records[0].Token.Epoch != epoch {
			records = nil
		}
		var last api.Record
		for _, r := range records {
			if r.Kind == api.Done { // it follows its Intent
				doTo(m.recorded, last.Step)
			}
			last = r
		}
		if last.Kind == api.Intent && m.known[last.Token] == 1 {
			doTo(m.recorded, last.Step)
		}
		if len(records) > 1 {
			m.checkpoint(epoch + 1)
		} else {
			m.begin(epoch)
		}
		m.up = true
		return api.OK
	})
}

// pair is an engine and its model, which are told the same, and must answer the same.
type pair struct {
	t *testing.T
	e *engine.Engine
	m *model
}

func newPair(t *testing.T, room int) *pair {
	t.Helper()
	return &pair{t, fresh(t, room), newModel(room)}
}

func (p *pair) breaks(k, keep, names int) {
	p.t.Helper()
	must(p.t, "Break", p.e.Break(k, keep, names), p.m.d.Break(k, keep, names))
}

func (p *pair) halts(k int, behind bool, keep, names int) {
	p.t.Helper()
	ok(p.t, p.e.Halt(k, behind, keep, names))
	p.m.halt, p.m.behind, p.m.keep, p.m.names = k, behind, keep, names
}

func (p *pair) refuses(k int) {
	p.t.Helper()
	ok(p.t, p.e.Refuse(k))
	p.m.refuse = k
}

func (p *pair) crash(keep, names int) {
	p.t.Helper()
	want := api.ErrDown
	if p.m.up {
		p.m.d.Crash(keep, names)
		p.m.up, want = false, api.OK
	}
	must(p.t, "Crash", p.e.Crash(keep, names), want)
	p.compare("Crash")
}

func (p *pair) apply(text string) api.Errno {
	p.t.Helper()
	calls, planned := len(p.e.History()), p.planned(text)
	errno, place := p.e.Apply(text)
	if want, at := p.m.apply(text); errno != want || place != at {
		p.t.Fatalf("Apply(%q) = %d, %d, want %d, %d", text, errno, place, want, at)
	}
	if did := told(p.e.History()[calls:]); !strings.HasPrefix(planned, did) {
		p.t.Fatalf("Apply(%q) did %s of the steps %s", text, did, planned)
	}
	p.compare("Apply of " + text)
	return errno
}

// planned is the steps that lead from what is recorded to a text.
func (p *pair) planned(text string) string {
	have, errno := p.e.Recorded()
	want, wrong, _ := config.Parse(text)
	if errno != api.OK || wrong != api.OK {
		return ""
	}
	steps, _ := plan.Steps(have, want)
	return told(steps)
}

func (p *pair) recover() api.Errno {
	p.t.Helper()
	errno, want := p.e.Recover(), p.m.recover()
	must(p.t, "Recover", errno, want)
	p.compare("Recover")
	return errno
}

// compare asks that all that can be seen is the same, and that P19 holds.
func (p *pair) compare(behind string) {
	p.t.Helper()
	for _, name := range []string{"state", "journal", "temp"} {
		got, errno := p.e.File(name)
		if want, wants := p.m.d.Read(name); got != want || errno != wants {
			p.t.Fatalf("behind %s: %s is %q, %d, want %q, %d", behind, name, got, errno, want, wants)
		}
	}
	got, errno := p.e.Recorded()
	if (errno == api.OK) != p.m.up || p.m.up && printed(p.t, got) != printed(p.t, inOrder(p.m.recorded)) {
		p.t.Fatalf("behind %s: recorded is %v, %d, want %v", behind, got, errno, inOrder(p.m.recorded))
	}
	if got, want := printed(p.t, p.e.World()), printed(p.t, inOrder(p.m.world)); got != want {
		p.t.Fatalf("behind %s: the world is %q, want %q", behind, got, want)
	}
	if errno == api.OK && printed(p.t, got) != printed(p.t, p.e.World()) {
		p.t.Fatalf("behind %s: recorded is %v, the world is %v", behind, got, p.e.World())
	}
	historyIs(p.t, p.e, told(p.m.history))
	callsAre(p.t, p.e, p.m.calls)
}

// P19: what the history leads to is the world; nothing was made ahead of its After, or taken away ahead of what is after it.
func (p *pair) checkHistory() {
	p.t.Helper()
	world := map[api.ID]api.Resource{}
	for _, s := range p.e.History() {
		old, was := world[s.Resource.ID]
		if was != (s.Op != api.Create) {
			p.t.Fatalf("it was there already, or was not: %+v", s)
		}
		if s.Op == api.Update && printed(p.t, []api.Resource{old}) == printed(p.t, []api.Resource{s.Resource}) {
			p.t.Fatalf("it is done twice: %+v", s)
		}
		doTo(world, s)
		if !rules.AreWhole(inOrder(world)) {
			p.t.Fatalf("%+v leaves a world that is not whole", s)
		}
	}
	if got, want := printed(p.t, p.e.World()), printed(p.t, inOrder(world)); got != want {
		p.t.Fatalf("the world is %q, its history leads to %q", got, want)
	}
}
