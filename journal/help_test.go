package journal_test

import (
	"strconv"
	"strings"
	"testing"

	"mason/api"
	"mason/config"
	"mason/journal"
	"mason/resource"
)

func id(kind, name string) api.ID { return api.ID{Kind: kind, Name: name} }

func number(name string, n int) api.Attr { return api.Attr{Name: name, Number: n} }

func text(name, s string) api.Attr { return api.Attr{Name: name, IsText: true, Text: s} }

// of is the resources of a text.
func of(t *testing.T, s string) []api.Resource {
	t.Helper()
	l, errno, place := config.Parse(s)
	if errno != api.OK {
		t.Fatalf("Parse(%q): %d at %d", s, errno, place)
	}
	return l
}

func raw(l ...int) string {
	var b []byte
	for _, n := range l {
		b = append(b, byte(n))
	}
	return string(b)
}

func record(kind, epoch, number int) api.Record {
	return api.Record{Kind: kind, Token: api.Token{Epoch: epoch, Number: number}}
}

func intent(op int, r api.Resource) api.Record {
	x := record(api.Intent, 1, 2)
	x.Step = api.Step{Op: op, Resource: r}
	return x
}

func same(a, b api.Record) bool {
	return a.Kind == b.Kind && a.Token == b.Token && a.Step.Op == b.Step.Op && resource.Same(a.Step.Resource, b.Step.Resource)
}

// great is a resource that has as much of everything as may be.
func great(name string) api.Resource {
	r := api.Resource{ID: id(strings.Repeat("K", api.MaxWord), name)}
	for i := range api.MaxAttrs {
		n := strconv.Itoa(i)
		r.Attrs = append(r.Attrs, text("t"+n+strings.Repeat("-", api.MaxWord-2), strings.Repeat("~", api.MaxString)))
	}
	for i := range api.MaxAfter {
		n := strconv.Itoa(i)
		r.After = append(r.After, id("after", longName(n)))
	}
	return r
}

func longName(n string) string { return "n" + n + strings.Repeat("_", api.MaxWord-2) }

// summed is bytes, with their Sum behind them.
func summed(s string) string {
	n := journal.Sum(s)
	return s + raw(n>>24, n>>16, n>>8, n)
}

// framed is bytes as they would stand in a journal.
func framed(s string) string {
	n := journal.Sum(s)
	return raw(len(s)>>8, len(s), n>>24, n>>16, n>>8, n) + s
}

func encoded(t *testing.T, r api.Record) string {
	t.Helper()
	s, errno := journal.Encode(r)
	if errno != api.OK {
		t.Fatalf("Encode(%+v): %d", r, errno)
	}
	return s
}
