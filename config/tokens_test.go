package config_test

import (
	"strings"
	"testing"

	"mason/api"
	"mason/config"
)

func TestLengthOfText(t *testing.T) {
	head := "resource a b {}"
	full := head + strings.Repeat(" ", api.MaxText-len(head))
	checkRight(t, []right{{full, []api.Resource{{ID: id("a", "b")}}}})
	checkWrong(t, []wrong{
		{full + " ", api.ErrLong, 0},
		{full[:len(full)-1] + ";", api.ErrByte, api.MaxText - 1},
		// The length comes ahead of all else that is wrong.
		{";" + full, api.ErrLong, 0},
		{strings.Repeat("\xff", 100000), api.ErrLong, 0},
	})
}

func TestEmptyText(t *testing.T) {
	for _, s := range []string{"", " ", "\t", "\n", " \t\n \n", "#", "# resource a b {", "#;\n", "# \"\n#\n\n", "#\x00\r\xff"} {
		if l, e, at := config.Parse(s); len(l) != 0 || e != api.OK || at != 0 {
			t.Errorf("Parse(%q) = %v, %d, %d", s, l, e, at)
		}
	}
}

func TestBetweenTokens(t *testing.T) {
	want := []api.Resource{{ID: id("a", "b"), Attrs: []api.Attr{number("x", 1), text("y", "#")}, After: []api.ID{id("a", "c")}}, {ID: id("a", "c")}}
	checkRight(t, []right{
		{"resource a b{x=1y=\"#\"after=[a.c]}resource a c{}", want},
		{"\n\tresource\ta\nb { x = 1\n\ty = \"#\" after = [ a . c ] }\n\n resource a c { } \t\n", want},
		{"resource#;\na#\"\nb#\n{x#}\n=#=\n1 y=\"#\"#\"\nafter=#\n[a#.\n.c]}resource a c{}#", want},
	})
	checkWrong(t, []wrong{
		{"# a line\n;", api.ErrByte, 9},
		{"#\r;\n\r", api.ErrByte, 4},
		{"resource#a\n3", api.ErrSyntax, 11},
	})
}

// Every byte, alone: it is skipped, or begins a token that must not stand there, or one that is wrong, or nothing.
func TestEachByteAlone(t *testing.T) {
	for i := range 256 {
		b := byte(i)
		want := api.ErrByte
		switch {
		case strings.IndexByte(" \t\n#", b) >= 0:
			want = api.OK
		case strings.IndexByte("abcdefghijklmnopqrstuvwxyzABCDEFGHIJKLMNOPQRSTUVWXYZ0123456789{}[]=,.", b) >= 0:
			want = api.ErrSyntax
		case b == '"':
			want = api.ErrString
		case b == '-':
			want = api.ErrNumber
		}
		if l, e, at := config.Parse(string([]byte{b})); l != nil || e != want || at != 0 {
			t.Errorf("Parse of the byte %d = %v, %d, %d, want %d", b, l, e, at, want)
		}
	}
}

// Every byte, behind the first one of a word: it belongs to it, or not.
func TestEachByteInWord(t *testing.T) {
	for i := range 256 {
		b := byte(i)
		name := string([]byte{'k', b})
		s := "resource a " + name + " {}"
		l, e, at := config.Parse(s)
		switch {
		case strings.IndexByte("abcdefghijklmnopqrstuvwxyzABCDEFGHIJKLMNOPQRSTUVWXYZ0123456789_-", b) >= 0:
			if !same(l, []api.Resource{{ID: id("a", name)}}) || e != api.OK || at != 0 {
				t.Errorf("Parse(%q) = %v, %d, %d", s, l, e, at)
			}
		case strings.IndexByte(" \t\n", b) >= 0:
			if !same(l, []api.Resource{{ID: id("a", "k")}}) || e != api.OK || at != 0 {
				t.Errorf("Parse(%q) = %v, %d, %d", s, l, e, at)
			}
		default:
			if l != nil || e == api.OK {
				t.Errorf("Parse(%q) = %v, %d, %d", s, l, e, at)
			}
		}
	}
}

// Every byte, within quotes: it stands for itself, or may not be there.
func TestEachByteInString(t *testing.T) {
	for i := range 256 {
		b := byte(i)
		plain := 32 <= b && b <= 126 && b != '"' && b != '\\'
		s := valued("\"a" + string([]byte{b}) + "z\"")
		l, e, at := config.Parse(s)
		if plain && (!same(l, []api.Resource{{ID: id("a", "b"), Attrs: []api.Attr{text("x", "a"+string([]byte{b})+"z")}}}) || e != api.OK) {
			t.Errorf("Parse(%q) = %v, %d, %d", s, l, e, at)
		}
		if !plain && b != '"' && (l != nil || e != api.ErrString || at != valueAt) {
			t.Errorf("Parse(%q) = %v, %d, %d", s, l, e, at)
		}
	}
}

// Every byte, behind a backslash.
func TestEachSign(t *testing.T) {
	meant := map[byte]string{'\\': "\\", '"': "\"", 'n': "\n"}
	for i := range 256 {
		b := byte(i)
		s := valued("\"\\" + string([]byte{b}) + "\"")
		l, e, at := config.Parse(s)
		if m, ok := meant[b]; ok {
			if !same(l, []api.Resource{{ID: id("a", "b"), Attrs: []api.Attr{text("x", m)}}}) || e != api.OK || at != 0 {
				t.Errorf("Parse(%q) = %v, %d, %d", s, l, e, at)
			}
		} else if l != nil || e != api.ErrString || at != valueAt {
			t.Errorf("Parse(%q) = %v, %d, %d", s, l, e, at)
		}
	}
}

func TestWords(t *testing.T) {
	longest := strings.Repeat("w", api.MaxWord)
	checkRight(t, []right{
		{"resource a b {}", []api.Resource{{ID: id("a", "b")}}},
		{"resource a- Z_-9 {}", []api.Resource{{ID: id("a-", "Z_-9")}}},
		{"resource after resource { resource = 1 }", []api.Resource{{ID: id("after", "resource"), Attrs: []api.Attr{number("resource", 1)}}}},
		{"resource " + longest + " " + longest + " { " + longest + " = 1 }", []api.Resource{{ID: id(longest, longest), Attrs: []api.Attr{number(longest, 1)}}}},
	})
	checkWrong(t, []wrong{
		{longest + "w", api.ErrWord, 0},
		{"resource " + longest + "- b {}", api.ErrWord, 9},
		{"resource a " + longest + "9 {}", api.ErrWord, 11},
		{"resource a b { " + longest + "_ = 1 }", api.ErrWord, 15},
		{"resource a b { after = [a." + strings.Repeat("w", 500), api.ErrWord, 26},
		{"resource a _b {}", api.ErrByte, 11},
		{"resource a é {}", api.ErrByte, 11},
		{"resource a bé {}", api.ErrByte, 12},
		{"resource a 9b {}", api.ErrSyntax, 11},
		{"resource a -b {}", api.ErrNumber, 11},
	})
}

func TestNumbers(t *testing.T) {
	for s, n := range map[string]int{
		"0": 0, "-0": 0, "7": 7, "-7": -7, "007": 7, "-0070": -70, "123456789": 123456789,
		"999999999": 999999999, "1000000000": 1000000000, "-1000000000": -1000000000,
		"00000000000000000000000001000000000": 1000000000, "-" + strings.Repeat("0", 900) + "5": -5,
	} {
		checkRight(t, []right{{valued(s), []api.Resource{{ID: id("a", "b"), Attrs: []api.Attr{number("x", n)}}}}})
	}
	for _, s := range []string{
		"-", "--1", "- 1", "-x", "-\n1", "1000000001", "-1000000001", "1000000009", "1000000010", "2000000000", "9999999999",
		"4294967296", "4294967297", "9223372036854775807", "9223372036854775808", "-9223372036854775808", "18446744073709551616", "18446744073709551617",
		strings.Repeat("9", 1500), "-" + strings.Repeat("1", 1500),
	} {
		checkWrong(t, []wrong{{valued(s), api.ErrNumber, valueAt}})
	}
	checkRight(t, []right{
		// What is no digit ends a number, whatever it is.
		{"resource a b{x=1y=2z=-3}", []api.Resource{{ID: id("a", "b"), Attrs: []api.Attr{number("x", 1), number("y", 2), number("z", -3)}}}},
	})
	checkWrong(t, []wrong{
		{valued("1-2"), api.ErrSyntax, valueAt + 1},
		{valued("+1"), api.ErrByte, valueAt},
		{valued("1.5"), api.ErrSyntax, valueAt + 1},
	})
}

func TestStrings(t *testing.T) {
	longest := strings.Repeat("s", api.MaxString)
	signs := strings.Repeat(`\n`, 7) + strings.Repeat(`\\`, 7) + strings.Repeat(`\"`, 6)
	for s, want := range map[string]string{
		`""`: "", `" "`: " ", `"~"`: "~", `"a # b"`: "a # b", `"\\n"`: `\n`, `"\n\"\\"`: "\n\"\\",
		`"{}[]=,."`:           "{}[]=,.",
		`"` + longest + `"`:   longest,
		`"` + signs + `"`:     strings.Repeat("\n", 7) + strings.Repeat(`\`, 7) + strings.Repeat(`"`, 6),
		`"resource a b { x="`: "resource a b { x=",
	} {
		checkRight(t, []right{{valued(s), []api.Resource{{ID: id("a", "b"), Attrs: []api.Attr{text("x", want)}}}}})
	}
	for _, s := range []string{
		`"`, `"abc`, `"abc\"`, `"\`, `"\\\`, "\"a\nb\"", "\"\t\"", "\"\x00\"", "\"\x1f\"", "\"\x7f\"", "\"é\"", `"\t"`, `"\N"`, "\"\\\n\"", `"\ n"`,
		`"` + longest + `s"`, `"` + signs + `\n"`, `"` + strings.Repeat("s", 1500) + `"`,
	} {
		checkWrong(t, []wrong{{"resource a b { x = " + s, api.ErrString, valueAt}})
	}
	checkWrong(t, []wrong{
		{`resource a b { x = "a"" }`, api.ErrString, 22},
		{`resource a b { x = "a" "b" }`, api.ErrSyntax, 23},
	})
}

// The first token that is wrong decides, ahead of all that P4 and P5 find.
func TestFirstWrongToken(t *testing.T) {
	long := strings.Repeat("w", api.MaxWord+1)
	checkWrong(t, []wrong{
		{"} } } ;", api.ErrByte, 6},
		{"resource a b {} resource a b {} \"", api.ErrString, 32},
		{"resource a b { after = [a.b] } -", api.ErrNumber, 31},
		{"resource a b { after = [c.d] } " + long, api.ErrWord, 31},
		{"resource a b { x = 1 x = 1000000001", api.ErrNumber, 25},
		{"; \" - " + long, api.ErrByte, 0},
		{"\" ; - " + long, api.ErrString, 0},
		{"- ; \" " + long, api.ErrNumber, 0},
		{long + " ; \" -", api.ErrWord, 0},
		{"a 1 \"b\" {}[]=,. # ;\n ;", api.ErrByte, 21},
	})
}
