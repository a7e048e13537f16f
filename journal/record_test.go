package journal_test

import (
	"hash/crc32"
	"strings"
	"testing"

	"mason/api"
	"mason/journal"
)

func TestSum(t *testing.T) {
	for s, want := range map[string]int{"": 0, "a": 0xe8b7be43, "123456789": 0xcbf43926, "\x00": 0xd202ef8d, "\xff": 0xff000000, "\x00\x00\x00\x00": 0x2144df1c} {
		if n := journal.Sum(s); n != want {
			t.Errorf("Sum(%q) = %x, want %x", s, n, want)
		}
	}
	var all []byte
	for i := range 1000 {
		all = append(all, byte(i*i+i>>3))
		if n := journal.Sum(string(all)); n != int(crc32.ChecksumIEEE(all)) {
			t.Fatalf("Sum(%q) = %x", all, n)
		}
	}
}

// a record, and its bytes.
type code struct {
	r api.Record
	s string
}

func codes() []code {
	word := strings.Repeat("w", api.MaxWord)
	long := strings.Repeat(" ", api.MaxString)
	bare := api.Resource{ID: id("a", "bc")}
	return []code{
		{record(api.Begin, 1, 0), raw(1, 0, 0, 1, 0, 0, 0)},
		{record(api.Begin, 66051, 0), raw(1, 1, 2, 3, 0, 0, 0)},
		{record(api.Begin, api.MaxCount, 0), raw(1, 15, 66, 64, 0, 0, 0)},
		{record(api.Done, 1, 0), raw(3, 0, 0, 1, 0, 0, 0)},
		{record(api.Done, 258, 66051), raw(3, 0, 1, 2, 1, 2, 3)},
		{record(api.Fail, api.MaxCount, api.MaxCount), raw(4, 15, 66, 64, 15, 66, 64)},
		{intent(api.Create, bare), raw(2, 0, 0, 1, 0, 0, 2, 1, 1, 'a', 2, 'b', 'c', 0, 0)},
		{intent(api.Update, bare), raw(2, 0, 0, 1, 0, 0, 2, 2, 1, 'a', 2, 'b', 'c', 0, 0)},
		{intent(api.Delete, bare), raw(2, 0, 0, 1, 0, 0, 2, 3, 1, 'a', 2, 'b', 'c', 0, 0)},
		{
			intent(api.Create, api.Resource{ID: id("a", "b"), Attrs: []api.Attr{number("m", 0), number("n", -1), number("o", 16909060), number("p", -api.MaxNumber), number("q", api.MaxNumber)}}),
			raw(2, 0, 0, 1, 0, 0, 2, 1, 1, 'a', 1, 'b', 5, 1, 'm', 0, 0, 0, 0, 0, 1, 'n', 0, 255, 255, 255, 255, 1, 'o', 0, 1, 2, 3, 4, 1, 'p', 0, 196, 101, 54, 0, 1, 'q', 0, 59, 154, 202, 0, 0),
		},
		{
			intent(api.Delete, api.Resource{ID: id("a", "b"), Attrs: []api.Attr{text("m", ""), text("n", "\n~"), text(word, long)}}),
			raw(2, 0, 0, 1, 0, 0, 2, 3, 1, 'a', 1, 'b', 3, 1, 'm', 1, 0, 1, 'n', 1, 2, 10, 126, 12) + word + raw(1, 20) + long + raw(0),
		},
		// a resource that may be need not be whole: its After may be itself
		{
			intent(api.Update, api.Resource{ID: id("a", "bc"), After: []api.ID{id("a", "bc"), id("x", word)}}),
			raw(2, 0, 0, 1, 0, 0, 2, 2, 1, 'a', 2, 'b', 'c', 0, 2, 1, 'a', 2, 'b', 'c', 1, 'x', 12) + word,
		},
	}
}

func TestCodes(t *testing.T) {
	for _, c := range codes() {
		if s, errno := journal.Encode(c.r); s != c.s || errno != api.OK {
			t.Errorf("Encode(%+v) = %v, %d, want %v", c.r, []byte(s), errno, []byte(c.s))
		}
		if r, errno := journal.Decode(c.s); !same(r, c.r) || errno != api.OK {
			t.Errorf("Decode(%v) = %+v, %d, want %+v", []byte(c.s), r, errno, c.r)
		}
	}
	s := encoded(t, intent(api.Create, great("a")))
	if len(s) != 8+13+2+1+6*(13+1+21)+1+6*(6+13) {
		t.Errorf("a great record has %d bytes", len(s))
	}
	if r, errno := journal.Decode(s); !same(r, intent(api.Create, great("a"))) || errno != api.OK {
		t.Errorf("Decode = %+v, %d", r, errno)
	}
}

func TestEmptyListsOfARecord(t *testing.T) {
	r := record(api.Done, 1, 0)
	r.Step.Resource.Attrs, r.Step.Resource.After = []api.Attr{}, []api.ID{}
	if s, errno := journal.Encode(r); s != raw(3, 0, 0, 1, 0, 0, 0) || errno != api.OK {
		t.Errorf("Encode = %v, %d", []byte(s), errno)
	}
}

// wrongResources are such as may not be.
func wrongResources() []api.Resource {
	a := id("a", "a")
	many, manyAfter := great("a"), great("a")
	many.Attrs = append(many.Attrs, number("z", 0))
	manyAfter.After = append(manyAfter.After, id("z", "z"))
	return []api.Resource{
		{}, {ID: id("", "a")}, {ID: id("a", "")}, {ID: id("a", "9")}, {ID: id(strings.Repeat("w", api.MaxWord+1), "a")}, {ID: id("a", strings.Repeat("w", api.MaxWord+1))},
		{ID: a, Attrs: []api.Attr{number("after", 1)}}, {ID: a, Attrs: []api.Attr{number("", 1)}}, {ID: a, Attrs: []api.Attr{number("x", 1), number("x", 1)}}, {ID: a, Attrs: []api.Attr{number("y", 1), number("x", 1)}},
		{ID: a, Attrs: []api.Attr{number("x", api.MaxNumber+1)}}, {ID: a, Attrs: []api.Attr{number("x", -api.MaxNumber-1)}},
		{ID: a, Attrs: []api.Attr{text("x", "\t")}}, {ID: a, Attrs: []api.Attr{text("x", "\x7f")}}, {ID: a, Attrs: []api.Attr{text("x", strings.Repeat("s", api.MaxString+1))}},
		{ID: a, Attrs: []api.Attr{{Name: "x", IsText: true, Number: 1}}}, {ID: a, Attrs: []api.Attr{{Name: "x", Text: "1"}}},
		{ID: a, After: []api.ID{{}}}, {ID: a, After: []api.ID{a, a}}, {ID: a, After: []api.ID{id("b", "b"), a}}, {ID: a, After: []api.ID{id("b", "-")}},
		many, manyAfter,
	}
}

func TestEncodeOfWhatMayNotBe(t *testing.T) {
	wrong := []api.Record{{}}
	for _, kind := range []int{-1, 0, 5, 256 + api.Done} {
		wrong = append(wrong, record(kind, 1, 0))
	}
	for _, kind := range []int{api.Begin, api.Intent, api.Done, api.Fail} {
		for _, r := range []api.Record{record(kind, 0, 0), record(kind, -1, 0), record(kind, api.MaxCount+1, 0), record(kind, 1<<24+1, 0), record(kind, 1, -1), record(kind, 1, api.MaxCount+1), record(kind, 1, 1<<24)} {
			if kind == api.Intent {
				r.Step = api.Step{Op: api.Create, Resource: api.Resource{ID: id("a", "a")}}
			}
			wrong = append(wrong, r)
		}
	}
	wrong = append(wrong, record(api.Begin, 1, 1), record(api.Intent, 1, 0))
	for _, op := range []int{-1, 0, 4, 256 + api.Create} {
		wrong = append(wrong, intent(op, api.Resource{ID: id("a", "a")}))
	}
	for _, r := range wrongResources() {
		wrong = append(wrong, intent(api.Create, r))
	}
	for _, kind := range []int{api.Begin, api.Done, api.Fail} {
		for _, s := range []api.Step{
			{Op: api.Create, Resource: api.Resource{ID: id("a", "a")}}, {Op: api.Create}, {Op: -1}, {Resource: api.Resource{ID: id("a", "")}}, {Resource: api.Resource{ID: id("", "a")}},
			{Resource: api.Resource{Attrs: []api.Attr{{}}}}, {Resource: api.Resource{After: []api.ID{{}}}},
		} {
			r := record(kind, 1, 0)
			r.Step = s
			wrong = append(wrong, r)
		}
	}
	for _, r := range wrong {
		if s, errno := journal.Encode(r); s != "" || errno != api.ErrArg {
			t.Errorf("Encode(%+v) = %v, %d", r, []byte(s), errno)
		}
	}
}

func checkBytes(t *testing.T, s string) {
	t.Helper()
	if r, errno := journal.Decode(s); errno != api.ErrBytes || !same(r, api.Record{}) || r.Step.Resource.Attrs != nil || r.Step.Resource.After != nil {
		t.Errorf("Decode(%v) = %+v, %d", []byte(s), r, errno)
	}
}

func TestDecodeOfWrongBytes(t *testing.T) {
	for _, c := range codes() {
		for i := range len(c.s) {
			checkBytes(t, c.s[:i])
		}
		checkBytes(t, c.s+"\x00")
		checkBytes(t, c.s+c.s)
		checkBytes(t, "\x00"+c.s)
	}
	head := raw(2, 0, 0, 1, 0, 0, 2, 1, 1, 'a', 1, 'b')
	for _, s := range []string{
		raw(0, 0, 0, 1, 0, 0, 0), raw(5, 0, 0, 1, 0, 0, 0), raw(255, 0, 0, 1, 0, 0, 0),
		raw(1, 0, 0, 0, 0, 0, 0), raw(1, 0, 0, 1, 0, 0, 1), raw(1, 15, 66, 65, 0, 0, 0), raw(3, 0, 0, 1, 15, 66, 65), raw(4, 255, 255, 255, 255, 255, 255),
		raw(2, 0, 0, 1, 0, 0, 2, 0, 1, 'a', 1, 'b', 0, 0), raw(2, 0, 0, 1, 0, 0, 2, 4, 1, 'a', 1, 'b', 0, 0),
		raw(2, 0, 0, 1, 0, 0, 2, 1, 0, 1, 'b', 0, 0), raw(2, 0, 0, 1, 0, 0, 2, 1, 1, 'a', 1, '9', 0, 0),
		// neither a string nor a number
		head + raw(1, 1, 'n', 2, 0, 0, 0, 0, 0), head + raw(1, 1, 'n', 255, 0, 0, 0, 0, 0), head + raw(1, 1, 'n', 2, 1, 'x', 0),
		// numbers beyond their bounds
		head + raw(1, 1, 'n', 0, 59, 154, 202, 1, 0), head + raw(1, 1, 'n', 0, 196, 101, 53, 255, 0), head + raw(1, 1, 'n', 0, 128, 0, 0, 0, 0),
		// strings and names
		head + raw(1, 1, 'n', 1, 1, 9, 0), head + raw(1, 1, 'n', 1, 21) + strings.Repeat("s", 21) + raw(0), head + raw(1, 5) + "after" + raw(1, 0, 0),
		// what does not rise
		head + raw(2, 1, 'n', 1, 0, 1, 'm', 1, 0, 0), head + raw(2, 1, 'n', 1, 0, 1, 'n', 1, 0, 0), head + raw(0, 2, 1, 'b', 1, 'b', 1, 'b', 1, 'b'), head + raw(0, 2, 1, 'b', 1, 'b', 1, 'a', 1, 'b'),
		// lists that say more, or less, than there is
		head + raw(255), head + raw(0, 255), head + raw(1, 0), head + raw(0, 1), head + raw(0, 0, 1, 'b', 1, 'b'),
		head + raw(7) + strings.Repeat(raw(1, 'n', 1, 0), 7) + raw(0),
		"", strings.Repeat("\xff", 100000), strings.Repeat("\x02", 100000),
	} {
		checkBytes(t, s)
	}
}

// TestDecodeIsEncodeBackwards: what Decode takes of bytes that were changed is what Encode gives.
func TestDecodeIsEncodeBackwards(t *testing.T) {
	took := 0
	for _, c := range codes() {
		for i := range len(c.s) {
			for n := range 256 {
				b := []byte(c.s)
				b[i] = byte(n)
				r, errno := journal.Decode(string(b))
				if errno == api.ErrBytes {
					continue
				}
				took++
				if s, back := journal.Encode(r); errno != api.OK || back != api.OK || s != string(b) {
					t.Fatalf("Decode(%v) = %+v, %d", b, r, errno)
				}
			}
		}
	}
	if took < 10000 {
		t.Errorf("only %d changed records were taken", took)
	}
}

func TestDecodeIsNewMemory(t *testing.T) {
	want := intent(api.Create, great("a"))
	s := encoded(t, want)
	a, _ := journal.Decode(s)
	b, _ := journal.Decode(s)
	clear(append(a.Step.Resource.Attrs, number("spare", 1)))
	clear(a.Step.Resource.Attrs)
	if !same(b, want) {
		t.Errorf("Decode = %+v", b)
	}
	a.Step.Resource.Attrs = b.Step.Resource.Attrs
	if !same(a, want) {
		t.Errorf("the lists of a record share room: %+v", a)
	}
	r := intent(api.Create, great("a"))
	encoded(t, r)
	if !same(r, want) {
		t.Errorf("Encode wrote into %+v", r)
	}
}
