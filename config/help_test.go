package config_test

import (
	"slices"
	"strconv"
	"strings"
	"testing"

	"mason/api"
	"mason/config"
)

const example = `resource vm a { size = 3 name = "x\ny" after = [net.b] } resource net b { }`

func id(kind, name string) api.ID { return api.ID{Kind: kind, Name: name} }

func number(name string, n int) api.Attr { return api.Attr{Name: name, Number: n} }

func text(name, s string) api.Attr { return api.Attr{Name: name, IsText: true, Text: s} }

func same(a, b []api.Resource) bool {
	return slices.EqualFunc(a, b, func(a, b api.Resource) bool {
		return a.ID == b.ID && slices.Equal(a.Attrs, b.Attrs) && slices.Equal(a.After, b.After)
	})
}

// a text, and what is wanted of it: resources, or an error and its place.
type right struct {
	s    string
	want []api.Resource
}

type wrong struct {
	s  string
	e  api.Errno
	at int
}

func checkRight(t *testing.T, cases []right) {
	t.Helper()
	for _, c := range cases {
		if l, e, at := config.Parse(c.s); !same(l, c.want) || e != api.OK || at != 0 {
			t.Errorf("Parse(%q) = %+v, %d, %d, want %+v", c.s, l, e, at, c.want)
		}
	}
}

func checkWrong(t *testing.T, cases []wrong) {
	t.Helper()
	for _, c := range cases {
		if l, e, at := config.Parse(c.s); l != nil || e != c.e || at != c.at {
			t.Errorf("Parse(%q) = %+v, %d, %d, want %d, %d", c.s, l, e, at, c.e, c.at)
		}
	}
}

// valued is a resource with one Attr, and with the value that s is.
func valued(s string) string { return "resource a b { x = " + s + " }" }

// valueAt is where the value of valued stands.
const valueAt = 19

// numbered is n times what part makes of a number.
func numbered(n int, between string, part func(number string) string) string {
	var l []string
	for i := range n {
		l = append(l, part(strconv.Itoa(i)))
	}
	return strings.Join(l, between)
}
