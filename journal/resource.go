package journal

import (
	"mason/api"
	"mason/wire"
)

// attrSize is how many bytes the number of an Attr has.
const attrSize = 4

// appendList puts a list behind b: how many elements there are, and each of them.
func appendList[E any](b []byte, l []E, appendOne func([]byte, E) []byte) []byte {
	b = wire.AppendNumber(b, len(l), 1)
	for _, e := range l {
		b = appendOne(b, e)
	}
	return b
}

// readList reads a list (nil, if it has no elements).
func readList[E any](in *wire.Reader, readOne func(*wire.Reader) E) []E {
	var l []E
	for range in.Number(1) {
		l = append(l, readOne(in))
	}
	return l
}

func appendResource(b []byte, r api.Resource) []byte {
	b = appendID(b, r.ID)
	b = appendList(b, r.Attrs, appendAttr)
	return appendList(b, r.After, appendID)
}

func readResource(in *wire.Reader) api.Resource {
	var r api.Resource
	r.ID = readID(in)
	r.Attrs = readList(in, readAttr)
	r.After = readList(in, readID)
	return r
}

func appendID(b []byte, id api.ID) []byte {
	return wire.AppendText(wire.AppendText(b, id.Kind), id.Name)
}

func readID(in *wire.Reader) api.ID {
	var id api.ID
	id.Kind = in.Text()
	id.Name = in.Text()
	return id
}

func appendAttr(b []byte, a api.Attr) []byte {
	b = wire.AppendText(b, a.Name)
	if a.IsText {
		return wire.AppendText(wire.AppendNumber(b, 1, 1), a.Text)
	}
	return wire.AppendNumber(wire.AppendNumber(b, 0, 1), a.Number, attrSize)
}

func readAttr(in *wire.Reader) api.Attr {
	var a api.Attr
	a.Name = in.Text()
	a.IsText = in.Number(1) == 1
	if a.IsText {
		a.Text = in.Text()
	} else {
		// The bytes are two's complement, so the sign comes from 32 bits.
		a.Number = int(int32(in.Number(attrSize)))
	}
	return a
}
