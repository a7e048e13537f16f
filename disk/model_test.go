package disk_test

import (
	"maps"
	"slices"
	"strings"
	"testing"

	"mason/api"
	"mason/disk"
	"mason/rules"
)

// model is a disk that keeps all that ever was: the names behind each change, whole, and each file.
type model struct {
	room    int
	files   []modelFile
	history []map[string]int // names and the places of their files: as they last, and behind each change
	k       int
	keep    int
	names   int
}

type modelFile struct {
	lasts, rest string
}

func (m *model) now() map[string]int { return m.history[len(m.history)-1] }

func (m *model) read(name string) string {
	f := m.files[m.now()[name]]
	return f.lasts + f.rest
}

func (m *model) change(edit func(names map[string]int)) {
	names := maps.Clone(m.now())
	edit(names)
	m.history = append(m.history, names)
}

func (m *model) size(but string) int {
	n := 0
	for name := range m.now() {
		if name != but {
			n += len(m.read(name))
		}
	}
	return n
}

func (m *model) crash(keep, names int) {
	stay := min(max(names, 0), len(m.history)-1)
	m.history = m.history[stay : stay+1]
	for _, at := range m.now() {
		f := &m.files[at]
		f.lasts, f.rest = f.lasts+f.rest[:min(max(keep, 0), len(f.rest))], ""
	}
	m.k = 0
}

// order is one act: its kind, and what goes into it.
type order struct {
	kind     int
	name, to string
	s        string
	k, keep  int
	names    int
}

const (
	write = iota
	appends
	sync
	rename
	remove
	syncNames
	breaks
	crash
	kinds
)

func (m *model) wrong(o order) api.Errno {
	_, there := m.now()[o.name]
	switch {
	case o.kind == syncNames:
		return api.OK
	case !rules.IsWord(o.name), o.kind == rename && !rules.IsWord(o.to):
		return api.ErrArg
	case o.kind != write && !there:
		return api.ErrFile
	case o.kind == write && m.size(o.name)+len(o.s) > m.room, o.kind == appends && m.size("")+len(o.s) > m.room:
		return api.ErrFull
	}
	return api.OK
}

func (m *model) effect(o order) {
	names := m.now()
	switch o.kind {
	case write:
		m.files = append(m.files, modelFile{rest: o.s})
		m.change(func(names map[string]int) { names[o.name] = len(m.files) - 1 })
	case appends:
		m.files[names[o.name]].rest += o.s
	case sync:
		f := &m.files[names[o.name]]
		f.lasts, f.rest = f.lasts+f.rest, ""
	case rename:
		m.change(func(names map[string]int) {
			at := names[o.name]
			delete(names, o.name)
			names[o.to] = at
		})
	case remove:
		m.change(func(names map[string]int) { delete(names, o.name) })
	case syncNames:
		m.history = m.history[len(m.history)-1:]
	}
}

func (m *model) do(o order) api.Errno {
	switch {
	case o.kind == breaks && o.k < 0:
		return api.ErrArg
	case o.kind == breaks:
		m.k, m.keep, m.names = o.k, o.keep, o.names
		return api.OK
	case o.kind == crash:
		m.crash(o.keep, o.names)
		return api.OK
	}
	falls := m.k == 1
	m.k = max(m.k-1, 0)
	errno := m.wrong(o)
	if errno == api.OK && !(falls && (o.kind == sync || o.kind == syncNames)) {
		m.effect(o)
	}
	if falls {
		m.crash(m.keep, m.names)
		return api.ErrDown
	}
	return errno
}

func (m *model) content() string {
	var l []string
	for _, name := range slices.Sorted(maps.Keys(m.now())) {
		l = append(l, name+"="+m.read(name))
	}
	return strings.Join(l, " ")
}

func doOn(d *disk.Disk, o order) api.Errno {
	switch o.kind {
	case write:
		return d.Write(o.name, o.s)
	case appends:
		return d.Append(o.name, o.s)
	case sync:
		return d.Sync(o.name)
	case rename:
		return d.Rename(o.name, o.to)
	case remove:
		return d.Remove(o.name)
	case syncNames:
		return d.SyncNames()
	case breaks:
		return d.Break(o.k, o.keep, o.names)
	}
	d.Crash(o.keep, o.names)
	return api.OK
}

// dice gives the same numbers each time.
type dice uint32

func (d *dice) below(n int) int {
	*d = *d*1664525 + 1013904223
	return int(*d>>16) % n
}

func oneOf[E any](d *dice, l ...E) E { return l[d.below(len(l))] }

func (d *dice) order() order {
	size := oneOf(d, 0, 1, 2, 3, 3, 5, 200, 400, 999)
	return order{
		kind:  d.below(kinds),
		name:  oneOf(d, "a", "a", "b", "b", "c", "D", "9"),
		to:    oneOf(d, "a", "a", "b", "b", "c", "D", ""),
		s:     strings.Repeat(string(rune('a'+d.below(26))), size),
		k:     oneOf(d, -1, 0, 1, 2, 3, 5),
		keep:  oneOf(d, least, -1, 0, 1, 2, 4, 300, most),
		names: oneOf(d, least, -1, 0, 1, 2, 3, 4, most),
	}
}

// P8, P9: many acts in a row answer and leave what the model does.
func TestAgainstModel(t *testing.T) {
	for seed := range 400 {
		roll := dice(seed)
		d := fresh(t, api.MinRoom)
		m := &model{room: api.MinRoom, history: []map[string]int{{}}}
		for i := range 150 {
			o := roll.order()
			if got, want := doOn(d, o), m.do(o); got != want {
				t.Fatalf("seed %d, act %d: %+v = %d, want %d", seed, i, o, got, want)
			}
			if got, want := content(t, d), m.content(); got != want {
				t.Fatalf("seed %d, act %d: %+v leaves %q, want %q", seed, i, o, got, want)
			}
		}
	}
}
