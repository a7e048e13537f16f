// Package wire: numbers and texts as bytes.
package wire

// How many bytes stand ahead of a record in a journal: its length, and its Sum.
const (
	LengthSize = 2
	SumSize    = 4
)

// AppendNumber puts a number behind b, in size bytes, the highest first.
func AppendNumber(b []byte, n, size int) []byte {
	for i := size - 1; i >= 0; i-- {
		b = append(b, byte(n>>(8*i)))
	}
	return b
}

// AppendText puts a text of at most 255 bytes behind b: its length, and its bytes.
func AppendText(b []byte, s string) []byte {
	return append(AppendNumber(b, len(s), 1), s...)
}

// Reader reads bytes from their beginning. Where they end too early, it reads what is left of
// them: it is up to the caller to find that out of what was read.
type Reader struct {
	rest string
}

// NewReader makes a reader of the bytes of s.
func NewReader(s string) *Reader { return &Reader{s} }

// Take reads n bytes.
func (r *Reader) Take(n int) string {
	n = min(n, len(r.rest))
	s := r.rest[:n]
	r.rest = r.rest[n:]
	return s
}

// Number reads a number of size bytes, that is not below 0.
func (r *Reader) Number(size int) int {
	n := 0
	for _, b := range []byte(r.Take(size)) {
		n = n<<8 | int(b)
	}
	return n
}

// Text reads a text.
func (r *Reader) Text() string { return r.Take(r.Number(1)) }
