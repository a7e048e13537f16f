package disk

// file is bytes, of which the first ones last.
type file struct {
	bytes   []byte
	lasting int // how many
}

func newFile(s string) *file { return &file{bytes: []byte(s)} }

// size tells how many bytes there are: none, where there is no file.
func (f *file) size() int {
	if f == nil {
		return 0
	}
	return len(f.bytes)
}

func (f *file) append(s string) { f.bytes = append(f.bytes, s...) }

// settle lets the first count bytes last, and loses the others.
func (f *file) settle(count int) {
	f.bytes = f.bytes[:count]
	f.lasting = count
}

// crash keeps what lasts, and the first keep bytes behind it.
func (f *file) crash(keep int) {
	f.settle(f.lasting + atMost(keep, f.size()-f.lasting))
}

// atMost tells how many the first count of all are: none, if count is below 0.
func atMost(count, all int) int { return min(max(count, 0), all) }
