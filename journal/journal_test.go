package journal_test

import (
	"strings"
	"testing"

	"mason/api"
	"mason/journal"
	"mason/resource"
)

func TestScan(t *testing.T) {
	records := []api.Record{record(api.Begin, 7, 0), intent(api.Create, great("a")), record(api.Done, 1, 2), intent(api.Delete, api.Resource{ID: id("a", "b")}), record(api.Fail, 7, api.MaxCount)}
	s := ""
	ends := []int{0}
	for _, r := range records {
		s += framed(encoded(t, r))
		ends = append(ends, len(s))
	}
	for cut := range len(s) + 1 {
		whole := 0
		for ends[whole] < len(s) && ends[whole+1] <= cut {
			whole++
		}
		l, n := journal.Scan(s[:cut])
		if len(l) != whole || n != ends[whole] {
			t.Fatalf("Scan of %d bytes = %d records of %d bytes, want %d of %d", cut, len(l), n, whole, ends[whole])
		}
		for i := range l {
			if !same(l[i], records[i]) {
				t.Fatalf("record %d is %+v, want %+v", i, l[i], records[i])
			}
		}
	}
}

func TestScanEndsAtWrongBytes(t *testing.T) {
	a := framed(encoded(t, record(api.Begin, 1, 0)))
	b := framed(encoded(t, record(api.Done, 1, 3)))
	for i := range len(b) {
		for _, change := range []byte{1, 0x80, 0xff} {
			bad := []byte(b)
			bad[i] ^= change
			if l, n := journal.Scan(a + string(bad) + b); len(l) != 1 || n != len(a) {
				t.Errorf("Scan with %v = %+v, %d", bad, l, n)
			}
		}
	}
	// Their Sums are right, but they are no records.
	for _, s := range []string{"", "x", raw(1, 0, 0, 1, 0, 0), raw(1, 0, 0, 1, 0, 0, 1), raw(1, 0, 0, 1, 0, 0, 0, 0), raw(5, 0, 0, 1, 0, 0, 0), strings.Repeat("r", 65535)} {
		if l, n := journal.Scan(a + framed(s) + b); len(l) != 1 || n != len(a) {
			t.Errorf("Scan with %.20q = %+v, %d", s, l, n)
		}
	}
	for _, s := range []string{"", "\x00", raw(0, 0, 0, 0, 0, 0), raw(255, 255) + a, "x" + a, encoded(t, record(api.Begin, 1, 0)), strings.Repeat("\x00", 100000)} {
		if l, n := journal.Scan(s); len(l) != 0 || n != 0 {
			t.Errorf("Scan(%.20q) = %+v, %d", s, l, n)
		}
	}
}

func TestScanOfManyRecords(t *testing.T) {
	a := framed(encoded(t, record(api.Done, 1, 3)))
	if l, n := journal.Scan(strings.Repeat(a, 10000)); len(l) != 10000 || n != 130000 {
		t.Errorf("Scan = %d records of %d bytes", len(l), n)
	}
}

func TestScanIsNewMemory(t *testing.T) {
	want := intent(api.Update, great("a"))
	a := framed(encoded(t, want))
	l, _ := journal.Scan(a + a)
	clear(append(l[0].Step.Resource.Attrs, number("spare", 1)))
	clear(append(l[0].Step.Resource.After, id("spare", "a")))
	clear(l[0].Step.Resource.Attrs)
	clear(l[0].Step.Resource.After)
	if len(l) != 2 || !same(l[1], want) {
		t.Errorf("records share room: %+v", l)
	}
}

const two = "resource vm a { size = 3 after = [net.b] } resource net b { }"

// twoBody is the resources of two as bytes.
func twoBody() string {
	return raw(2, 3, 'n', 'e', 't', 1, 'b', 0, 0, 2, 'v', 'm', 1, 'a', 1, 4, 's', 'i', 'z', 'e', 0, 0, 0, 0, 3, 1, 3, 'n', 'e', 't', 1, 'b')
}

func sameAll(a, b []api.Resource) bool {
	for i := range min(len(a), len(b)) {
		if !resource.Same(a[i], b[i]) {
			return false
		}
	}
	return len(a) == len(b)
}

// many is resources that are whole, and have as much of everything as may be.
func many() []api.Resource {
	var l []api.Resource
	for i := range api.MaxAfter {
		l = append(l, api.Resource{ID: great("x").After[i], Attrs: great("x").Attrs})
	}
	for i := range l {
		// Kinds of lesser letters than K stand ahead of the others.
		l[i].ID.Kind = "A"
	}
	for i := range api.MaxResources - api.MaxAfter {
		r := great(longName(string(rune('a' + i))))
		for j := range r.After {
			r.After[j].Kind = "A"
		}
		l = append(l, r)
	}
	return l
}

func TestState(t *testing.T) {
	for _, c := range []struct {
		epoch int
		l     []api.Resource
		body  string
	}{
		{1, nil, raw(0, 0, 1, 0)}, {66051, nil, raw(1, 2, 3, 0)}, {api.MaxCount, []api.Resource{}, raw(15, 66, 64, 0)},
		{258, of(t, two), raw(0, 1, 2) + twoBody()},
	} {
		want := summed("MASN" + c.body)
		if s, errno := journal.State(c.epoch, c.l); s != want || errno != api.OK {
			t.Errorf("State(%d, %+v) = %v, %d, want %v", c.epoch, c.l, []byte(s), errno, []byte(want))
		}
		if epoch, l, errno := journal.Load(want); epoch != c.epoch || !sameAll(l, c.l) || errno != api.OK {
			t.Errorf("Load(%v) = %d, %+v, %d", []byte(want), epoch, l, errno)
		}
	}
	s, errno := journal.State(1, many())
	if errno != api.OK {
		t.Fatalf("State: %d", errno)
	}
	if epoch, l, errno := journal.Load(s); epoch != 1 || !sameAll(l, many()) || errno != api.OK {
		t.Errorf("Load = %d, %+v, %d", epoch, l, errno)
	}
}

func TestStateOfWhatMayNotBe(t *testing.T) {
	for _, epoch := range []int{0, -1, api.MaxCount + 1, 1<<24 + 1} {
		if s, errno := journal.State(epoch, nil); s != "" || errno != api.ErrArg {
			t.Errorf("State(%d) = %q, %d", epoch, s, errno)
		}
	}
	a, b := id("a", "a"), id("b", "b")
	wrong := [][]api.Resource{
		{{ID: b}, {ID: a}}, {{ID: a}, {ID: a}}, append(many(), api.Resource{ID: id("Z", "z")}),
		{{ID: a, After: []api.ID{b}}}, {{ID: a, After: []api.ID{a}}}, {{ID: a, After: []api.ID{b}}, {ID: b, After: []api.ID{a}}},
	}
	for _, r := range wrongResources() {
		wrong = append(wrong, []api.Resource{r})
	}
	for _, l := range wrong {
		if s, errno := journal.State(1, l); s != "" || errno != api.ErrArg {
			t.Errorf("State(1, %+v) = %q, %d", l, s, errno)
		}
	}
}

func checkLoad(t *testing.T, s string) {
	t.Helper()
	if epoch, l, errno := journal.Load(s); epoch != 0 || l != nil || errno != api.ErrBytes {
		t.Errorf("Load(%v) = %d, %+v, %d", []byte(s), epoch, l, errno)
	}
}

func TestLoadOfWrongBytes(t *testing.T) {
	s, _ := journal.State(258, of(t, two))
	for i := range len(s) {
		checkLoad(t, s[:i])
		for _, change := range []byte{1, 0x80, 0xff} {
			b := []byte(s)
			b[i] ^= change
			checkLoad(t, string(b))
		}
	}
	checkLoad(t, s+"\x00")
	checkLoad(t, "\x00"+s)
	checkLoad(t, s+s)
	// Their Sums are right, but State gives none of them.
	for _, body := range []string{
		"", "MASN", "MASN" + raw(0, 0, 1), "MASM" + raw(0, 0, 1, 0), "masn" + raw(0, 0, 1, 0), "NASM" + raw(0, 0, 1, 0), raw(0, 0, 1, 0),
		"MASN" + raw(0, 0, 0, 0), "MASN" + raw(15, 66, 65, 0), "MASN" + raw(255, 255, 255, 0), "MASN" + raw(0, 0, 1, 0, 0), "MASN" + raw(0, 0, 1, 1), "MASN" + raw(0, 0, 1, 255),
		"MASN" + raw(0, 0, 1, 1, 1, 'a', 1, '9', 0, 0),
		"MASN" + raw(0, 0, 1, 1, 1, 'a', 1, 'a', 0, 0, 1, 'b', 1, 'b', 0, 0),
		"MASN" + raw(0, 0, 1, 2, 1, 'b', 1, 'b', 0, 0, 1, 'a', 1, 'a', 0, 0),
		"MASN" + raw(0, 0, 1, 2, 1, 'a', 1, 'a', 0, 0, 1, 'a', 1, 'a', 0, 0),
		"MASN" + raw(0, 0, 1, 1, 1, 'a', 1, 'a', 0, 1, 1, 'b', 1, 'b'),
		"MASN" + raw(0, 0, 1, 1, 1, 'a', 1, 'a', 0, 1, 1, 'a', 1, 'a'),
		"MASN" + raw(0, 0, 1, 1, 1, 'a', 1, 'a', 1, 1, 'n', 2, 0, 0, 0, 0, 0),
		"MASN" + raw(0, 0, 1, 13) + strings.Repeat(raw(1, 'a', 1, 'a', 0, 0), 13),
	} {
		checkLoad(t, summed(body))
	}
	checkLoad(t, strings.Repeat("\xff", 100000))
}

func TestLoadIsNewMemory(t *testing.T) {
	want := many()
	s, _ := journal.State(1, want)
	if !sameAll(want, many()) {
		t.Error("State wrote into what was handed in")
	}
	_, l, _ := journal.Load(s)
	for i := range l {
		if !resource.Same(l[i], many()[i]) {
			t.Fatalf("resource %d shares room: %+v", i, l[i])
		}
		clear(append(l[i].Attrs, number("spare", 1)))
		clear(l[i].Attrs)
		if i+1 < len(l) && !resource.Same(l[i+1], many()[i+1]) {
			t.Fatalf("resource %d shares room: %+v", i+1, l[i+1])
		}
		clear(append(l[i].After, id("spare", "a")))
		clear(l[i].After)
	}
}
