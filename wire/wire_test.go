package wire_test

import (
	"testing"

	"mason/wire"
)

func TestNumbers(t *testing.T) {
	for _, c := range []struct {
		n, size int
		want    string
	}{
		{0, 1, "\x00"}, {255, 1, "\xff"}, {258, 2, "\x01\x02"}, {1000000, 3, "\x0f\x42\x40"}, {0xcbf43926, 4, "\xcb\xf4\x39\x26"}, {3, 4, "\x00\x00\x00\x03"},
	} {
		if got := string(wire.AppendNumber([]byte("x"), c.n, c.size)); got != "x"+c.want {
			t.Errorf("AppendNumber(%d, %d) = %q", c.n, c.size, got)
		}
		in := wire.NewReader(c.want + "yz")
		if n := in.Number(c.size); n != c.n || in.Take(2) != "yz" {
			t.Errorf("Number(%d) = %d, want %d", c.size, n, c.n)
		}
	}
	if got := string(wire.AppendNumber(nil, -2, 4)); got != "\xff\xff\xff\xfe" {
		t.Errorf("AppendNumber(-2, 4) = %q", got)
	}
}

func TestTexts(t *testing.T) {
	b := wire.AppendText(wire.AppendText(nil, "abc"), "")
	if string(b) != "\x03abc\x00" {
		t.Errorf("AppendText = %q", b)
	}
	in := wire.NewReader(string(b) + "\x01z")
	if x, y, z := in.Text(), in.Text(), in.Text(); x != "abc" || y != "" || z != "z" {
		t.Errorf("Text = %q, %q, %q", x, y, z)
	}
}

func TestEndsTooEarly(t *testing.T) {
	in := wire.NewReader("\x05ab")
	if s := in.Text(); s != "ab" {
		t.Errorf("Text = %q", s)
	}
	if in.Number(4) != 0 || in.Text() != "" || in.Take(1) != "" {
		t.Error("there is something behind the end")
	}
	if n := wire.NewReader("\x01\x02").Number(4); n != 258 {
		t.Errorf("Number = %d", n)
	}
}
