package disk_test

import (
	"strings"
	"testing"

	"mason/api"
	"mason/disk"
)

const (
	most  = 1<<63 - 1
	least = -1 << 63
)

// notWords are names that may not be.
var notWords = []string{"", "9", "-a", "_", "a b", "a.", "ä", "a\x00", " a", strings.Repeat("a", api.MaxWord+1)}

func fresh(t *testing.T, room int) *disk.Disk {
	t.Helper()
	d, errno := disk.New(room)
	if d == nil || errno != api.OK {
		t.Fatalf("New(%d) = %v, %d", room, d, errno)
	}
	return d
}

func must(t *testing.T, what string, got, want api.Errno) {
	t.Helper()
	if got != want {
		t.Fatalf("%s = %d, want %d", what, got, want)
	}
}

func ok(t *testing.T, l ...api.Errno) {
	t.Helper()
	for i, errno := range l {
		if errno != api.OK {
			t.Fatalf("act %d = %d", i, errno)
		}
	}
}

// content is all names and bytes, as "a=xyz b=".
func content(t *testing.T, d *disk.Disk) string {
	t.Helper()
	var l []string
	for _, name := range d.Names() {
		s, errno := d.Read(name)
		must(t, "Read", errno, api.OK)
		l = append(l, name+"="+s)
	}
	return strings.Join(l, " ")
}

func has(t *testing.T, d *disk.Disk, want string) {
	t.Helper()
	if got := content(t, d); got != want {
		t.Fatalf("the disk has %q, want %q", got, want)
	}
}

func xs(n int) string { return strings.Repeat("x", n) }
