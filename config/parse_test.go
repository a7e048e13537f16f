package config_test

import (
	"slices"
	"strconv"
	"strings"
	"testing"

	"mason/api"
	"mason/config"
)

func TestExamples(t *testing.T) {
	checkRight(t, []right{{example, []api.Resource{
		{ID: id("net", "b")},
		{ID: id("vm", "a"), Attrs: []api.Attr{text("name", "x\ny"), number("size", 3)}, After: []api.ID{id("net", "b")}},
	}}})
	checkWrong(t, []wrong{
		{"resource a b { after = 3 }", api.ErrSyntax, 23},
		{"resource a b { x = 1 x = 2 }", api.ErrTwice, 21},
		{"resource a b { after = [a.b] }", api.ErrCycle, 9},
		{"resource a b { after = [a.c] }", api.ErrNone, 24},
		{"x = \"abc", api.ErrString, 4},
	})
}

func TestSyntax(t *testing.T) {
	checkWrong(t, []wrong{
		{"x", api.ErrSyntax, 0}, {"Resource a b {}", api.ErrSyntax, 0}, {"resources a b {}", api.ErrSyntax, 0}, {" 3", api.ErrSyntax, 1}, {"\"resource\" a b {}", api.ErrSyntax, 0},
		{"resource { }", api.ErrSyntax, 9}, {"resource 3 b {}", api.ErrSyntax, 9}, {"resource \"a\" b {}", api.ErrSyntax, 9}, {"resource a.b {}", api.ErrSyntax, 10}, {"resource a {}", api.ErrSyntax, 11}, {"resource a \"b\" {}", api.ErrSyntax, 11}, {"resource a b c {}", api.ErrSyntax, 13}, {"resource a b [", api.ErrSyntax, 13}, {"resource a b }", api.ErrSyntax, 13},
		{"resource a b { { }", api.ErrSyntax, 15}, {"resource a b { \"x\" = 1 }", api.ErrSyntax, 15}, {"resource a b { = 1 }", api.ErrSyntax, 15}, {"resource a b { x }", api.ErrSyntax, 17}, {"resource a b { x, 1 }", api.ErrSyntax, 16}, {"resource a b { x = = 1 }", api.ErrSyntax, 19}, {"resource a b { x = 1, y = 2 }", api.ErrSyntax, 20}, {"resource a b { x = 1 2 }", api.ErrSyntax, 21}, {"resource a b { x = y }", api.ErrSyntax, 19}, {"resource a b { x = { } }", api.ErrSyntax, 19}, {"resource a b { x = [a.b] }", api.ErrSyntax, 19}, {"resource a b { x = [] }", api.ErrSyntax, 19}, {"resource a b { After = [] }", api.ErrSyntax, 23},
		{"resource a b { after [] }", api.ErrSyntax, 21}, {"resource a b { after after", api.ErrSyntax, 21}, {"resource a b { after = 3 }", api.ErrSyntax, 23}, {"resource a b { after = \"a.b\" }", api.ErrSyntax, 23}, {"resource a b { after = a.b }", api.ErrSyntax, 23}, {"resource a b { after = ] }", api.ErrSyntax, 23},
		{"resource a b { after = [ } }", api.ErrSyntax, 25}, {"resource a b { after = [,a.c] }", api.ErrSyntax, 24}, {"resource a b { after = [a c] }", api.ErrSyntax, 26}, {"resource a b { after = [a,c] }", api.ErrSyntax, 25}, {"resource a b { after = [a.] }", api.ErrSyntax, 26}, {"resource a b { after = [.c] }", api.ErrSyntax, 24}, {"resource a b { after = [a.c.d] }", api.ErrSyntax, 27}, {"resource a b { after = [a.c,] }", api.ErrSyntax, 28}, {"resource a b { after = [a.c,,a.d] }", api.ErrSyntax, 28}, {"resource a b { after = [a.c a.d] }", api.ErrSyntax, 28}, {"resource a b { after = [a.c } }", api.ErrSyntax, 28}, {"resource a b { after = [a.\"c\"] }", api.ErrSyntax, 26}, {"resource a b { after = [[a.c]] }", api.ErrSyntax, 24}, {"resource a b { after = [] ] }", api.ErrSyntax, 26},
		{"resource a b {} }", api.ErrSyntax, 16}, {"resource a b {} x", api.ErrSyntax, 16}, {"resource a b {}, resource a c {}", api.ErrSyntax, 15},
	})
}

// Behind each token but the last one the end must not come; it stands behind blanks and remarks.
func TestEndOfText(t *testing.T) {
	tokens := strings.Fields("resource a b { x = 1 y = \"s\" after = [ a . c , a . d ] z = 2 }")
	s := ""
	for _, token := range tokens[:len(tokens)-1] {
		s += token
		for _, tail := range []string{"", " ", "\n", " # }", "#\n\t"} {
			checkWrong(t, []wrong{{s + tail, api.ErrSyntax, len(s + tail)}})
		}
		s += " "
	}
}

func resources(n int) string {
	return numbered(n, " ", func(i string) string { return "resource a x" + i + " {}" })
}

func TestManyResources(t *testing.T) {
	full := resources(api.MaxResources)
	if l, e, at := config.Parse(full); len(l) != api.MaxResources || e != api.OK || at != 0 {
		t.Errorf("Parse of the most resources = %v, %d, %d", l, e, at)
	}
	at := len(full) + 1
	checkWrong(t, []wrong{
		{resources(api.MaxResources + 1), api.ErrMany, at},
		{full + " resource", api.ErrMany, at},
		{full + " resource 3", api.ErrMany, at},
		{full + " resource a x0 {}", api.ErrMany, at},
		{full + " resource a x0 { ;", api.ErrByte, at + 16},
		{full + " resourc", api.ErrSyntax, at},
		// Refs and circles come behind all that.
		{"resource a b { after = [a.b, c.d] } " + full, api.ErrMany, 36 + len(resources(api.MaxResources-1)) + 1},
	})
}

func TestTwiceResource(t *testing.T) {
	checkRight(t, []right{{"resource a b {} resource b a {} resource a a {} resource A b {}", []api.Resource{{ID: id("A", "b")}, {ID: id("a", "a")}, {ID: id("a", "b")}, {ID: id("b", "a")}}}})
	checkWrong(t, []wrong{
		{"resource a b {} resource a b", api.ErrTwice, 25},
		{"resource a b {} resource a b }", api.ErrTwice, 25},
		{"resource a b {} resource a c {} resource\na\nb { x = 1 }", api.ErrTwice, 41},
		{"resource a b {} resource a", api.ErrSyntax, 26},
		{"resource a b { x = 1 y } resource a b {}", api.ErrSyntax, 23},
	})
}

func attrs(n int) string {
	return "resource a b { " + numbered(n, " ", func(i string) string { return "x" + i + " = 1" })
}

func TestManyAttrs(t *testing.T) {
	full := attrs(api.MaxAttrs)
	at := len(full) + 1
	for _, s := range []string{full + " }", full + " after = [] }", strings.Replace(full, "{ ", "{ after = [] ", 1) + " }"} {
		if l, e, _ := config.Parse(s); len(l) != 1 || len(l[0].Attrs) != api.MaxAttrs || e != api.OK {
			t.Errorf("Parse(%q) = %v, %d", s, l, e)
		}
	}
	checkWrong(t, []wrong{
		{attrs(api.MaxAttrs+1) + " }", api.ErrMany, at},
		{full + " y", api.ErrMany, at},
		{full + " y }", api.ErrMany, at},
		{full + " x0 = 1 }", api.ErrMany, at},
		{full + " y = [] }", api.ErrMany, at},
		{full + " after = [] y = 1 }", api.ErrMany, at + 11},
		{full + " after = [] after = [] }", api.ErrTwice, at + 11},
		{full + " 3", api.ErrSyntax, at},
	})
	// They are counted in each resource anew.
	two := full + " } " + strings.Replace(full, " b ", " c ", 1) + " }"
	if l, e, _ := config.Parse(two); len(l) != 2 || e != api.OK {
		t.Errorf("Parse(%q) = %v, %d", two, l, e)
	}
}

func TestTwiceAttr(t *testing.T) {
	checkRight(t, []right{
		{"resource a b { x = 1 X = 2 } resource a c { x = 3 }", []api.Resource{{ID: id("a", "b"), Attrs: []api.Attr{number("X", 2), number("x", 1)}}, {ID: id("a", "c"), Attrs: []api.Attr{number("x", 3)}}}},
		{"resource a b { after = [] } resource a c { after = [] }", []api.Resource{{ID: id("a", "b")}, {ID: id("a", "c")}}},
	})
	checkWrong(t, []wrong{
		{"resource a b { x = 1 x", api.ErrTwice, 21},
		{"resource a b { x = 1 x }", api.ErrTwice, 21},
		{"resource a b { x = 1 y = 2 x = \"s\" }", api.ErrTwice, 27},
		{"resource a b { x = \"s\" x = [", api.ErrTwice, 23},
		{"resource a b { after = [] after", api.ErrTwice, 26},
		{"resource a b { after = [] x = 1 after = 3 }", api.ErrTwice, 32},
		{"resource a b { after = [c.d] after = [c.d] }", api.ErrTwice, 29},
	})
}

// refs is a resource with n refs in its After, none of which is one of the text.
func refs(n int) string {
	return "resource a b { after = [" + numbered(n, ",", func(i string) string { return "c.x" + i })
}

func TestManyRefs(t *testing.T) {
	made := numbered(api.MaxAfter, " ", func(i string) string { return "resource c x" + i + " {}" })
	s := refs(api.MaxAfter) + "] } " + made
	if l, e, _ := config.Parse(s); len(l) != api.MaxAfter+1 || len(l[0].After) != api.MaxAfter || e != api.OK {
		t.Errorf("Parse(%q) = %v, %d", s, l, e)
	}
	full := refs(api.MaxAfter)
	at := len(full) + 1
	checkWrong(t, []wrong{
		{full + "] }", api.ErrNone, 24},
		{refs(api.MaxAfter+1) + "] }", api.ErrMany, at},
		{full + ",c.y", api.ErrMany, at},
		{full + ",c.x0", api.ErrMany, at},
		{full + ",c.", api.ErrSyntax, at + 2},
		{full + ",c]", api.ErrSyntax, at + 1},
		{full + ",]", api.ErrSyntax, at},
	})
}

func TestTwiceRef(t *testing.T) {
	checkRight(t, []right{{"resource a b {} resource c d {after=[a.b]} resource c e {after=[a.b,c.d]}", []api.Resource{
		{ID: id("a", "b")}, {ID: id("c", "d"), After: []api.ID{id("a", "b")}}, {ID: id("c", "e"), After: []api.ID{id("a", "b"), id("c", "d")}}}}})
	checkWrong(t, []wrong{
		{"resource a b { after = [c.d,c.d", api.ErrTwice, 28},
		{"resource a b { after = [c.d, c.e, c . d x", api.ErrTwice, 34},
		{"resource a b { after = [a.b,a.b] }", api.ErrTwice, 28},
		{"resource a b { after = [c.d,c.", api.ErrSyntax, 30},
		{"resource a b { after = [c.d,d.c,c.c,d.d] }", api.ErrNone, 24},
	})
}

func TestRefsOfNone(t *testing.T) {
	checkWrong(t, []wrong{
		{"resource a b { after = [b.a] }", api.ErrNone, 24},
		{"resource a b { after = [a.B] }", api.ErrNone, 24},
		{"resource a b {} resource a c { after = [a.b,z.z,a.a] }", api.ErrNone, 44},
		// In the order of the text, not that of the IDs.
		{"resource z z { after = [y.y] } resource a a { after = [b.b] }", api.ErrNone, 24},
		{"resource a b { after = [z.z,a.a] }", api.ErrNone, 24},
		// Ahead of circles.
		{"resource a b { after = [a.b] } resource a c { after = [a.d] }", api.ErrNone, 55},
		// Behind all of the syntax.
		{"resource a b { after = [a.c] } x", api.ErrSyntax, 31},
	})
}

func TestCircles(t *testing.T) {
	checkWrong(t, []wrong{
		{"resource a b {} resource a c { after = [a.c] }", api.ErrCycle, 25},
		{"resource z z { after = [a.b] } resource a c { after = [a.b] } resource a b { after = [a.c] }", api.ErrCycle, 40},
		{"resource a b { after = [a.c] } resource a c { after = [a.d] } resource a d { after = [a.b] }", api.ErrCycle, 9},
		{"resource b b { after = [b.b] } resource a a { after = [a.a] }", api.ErrCycle, 9},
	})
	ring := numbered(api.MaxResources, " ", func(i string) string {
		n, _ := strconv.Atoi(i)
		return "resource a x" + i + "{after=[a.x" + strconv.Itoa((n+1)%api.MaxResources) + "]}"
	})
	checkWrong(t, []wrong{{ring, api.ErrCycle, 9}})
	chain := strings.Replace(ring, "after=[a.x0]", "", 1)
	if l, e, at := config.Parse(chain); len(l) != api.MaxResources || e != api.OK || at != 0 {
		t.Errorf("Parse(%q) = %v, %d, %d", chain, l, e, at)
	}
}

// All ways in which three resources may wait for one another, in two orders of the text, against the closure worked out by a matrix.
func TestAllGraphs(t *testing.T) {
	for _, names := range []string{"abc", "cab"} {
		for bits := range 1 << 9 {
			s, reach, places := "", [3][3]bool{}, [3]int{}
			for i := range 3 {
				var l []string
				for j := range 3 {
					reach[i][j] = bits>>(3*i+j)&1 == 1
					if reach[i][j] {
						l = append(l, "k."+names[j:j+1])
					}
				}
				places[i] = len(s) + len("resource ")
				s += "resource k " + names[i:i+1] + " { after = [" + strings.Join(l, ", ") + "] }\n"
			}
			for k := range 3 {
				for i := range 3 {
					for j := range 3 {
						reach[i][j] = reach[i][j] || reach[i][k] && reach[k][j]
					}
				}
			}
			first := slices.IndexFunc([]int{0, 1, 2}, func(i int) bool { return reach[i][i] })
			l, e, at := config.Parse(s)
			if first < 0 && (len(l) != 3 || e != api.OK || at != 0) {
				t.Fatalf("Parse(%q) = %v, %d, %d, want OK", s, l, e, at)
			}
			if first >= 0 && (l != nil || e != api.ErrCycle || at != places[first]) {
				t.Fatalf("Parse(%q) = %v, %d, %d, want a circle at %d", s, l, e, at, places[first])
			}
		}
	}
}

func TestOrderOfAnswer(t *testing.T) {
	checkRight(t, []right{{
		"resource b a { zz = 1 z = 2 Z = 3 a-b = 4 a_b = 5 a1 = 6 after = [b.A, a.z, a.b, ab.a, a.B, B.a] } resource b A {} resource a z {} resource a b {} resource ab a {} resource a B {} resource B a {}",
		[]api.Resource{
			{ID: id("B", "a")}, {ID: id("a", "B")}, {ID: id("a", "b")}, {ID: id("a", "z")}, {ID: id("ab", "a")}, {ID: id("b", "A")},
			{ID: id("b", "a"),
				Attrs: []api.Attr{number("Z", 3), number("a-b", 4), number("a1", 6), number("a_b", 5), number("z", 2), number("zz", 1)},
				After: []api.ID{id("B", "a"), id("a", "B"), id("a", "b"), id("a", "z"), id("ab", "a"), id("b", "A")}},
		},
	}})
}

// What the caller writes into an answer, or behind it, is not seen elsewhere.
func TestParseAnswersNewMemory(t *testing.T) {
	s := "resource a b { x = 1 y = 2 after = [a.c, a.d] } resource a c { x = 1 after = [a.d] } resource a d { z = \"s\" }"
	kept, _, _ := config.Parse(s)
	l, _, _ := config.Parse(s)
	for i := range l {
		was := slices.Clone(l)
		r := &l[i]
		for j, more := range l {
			was[j].Attrs, was[j].After = slices.Clone(more.Attrs), slices.Clone(more.After)
		}
		_ = append(r.Attrs, number("n", 1), number("o", 2), number("p", 3))
		_ = append(r.After, id("n", "n"), id("o", "o"), id("p", "p"))
		if !same(l, was) {
			t.Errorf("written behind the lists of %v: %v, want %v", r.ID, l, was)
		}
		clear(r.Attrs[:cap(r.Attrs)])
		clear(r.After[:cap(r.After)])
		was[i] = *r
		if !same(l, was) {
			t.Errorf("written into the lists of %v: %v, want %v", r.ID, l, was)
		}
	}
	clear(l[:cap(l)])
	if again, e, _ := config.Parse(s); !same(again, kept) || e != api.OK {
		t.Errorf("Parse again = %v, %d, want %v", again, e, kept)
	}
}

// Pieces of a text, with any byte changed or taken out: each call ends, and an error has a place in the text and no list.
func TestParseOfDamagedTexts(t *testing.T) {
	whole := example + " resource a b { n = -12 after = [net.b, vm.a] } # end"
	check := func(s string) {
		l, e, at := config.Parse(s)
		if e != api.OK && l != nil || e == api.OK && at != 0 || at < 0 || at > len(s) {
			t.Fatalf("Parse(%q) = %v, %d, %d", s, l, e, at)
		}
		if e == api.OK {
			checkPrinted(t, l)
		}
	}
	for i := range whole {
		check(whole[:i])
		check(whole[i:])
		check(whole[:i] + whole[i+1:])
		for b := range 256 {
			check(whole[:i] + string([]byte{byte(b)}) + whole[i+1:])
		}
	}
}
