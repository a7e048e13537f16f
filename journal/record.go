package journal

import (
	"mason/api"
	"mason/resource"
	"mason/rules"
	"mason/wire"
)

// mayBe tells whether a record may be.
func mayBe(r api.Record) bool {
	if r.Token.Epoch < 1 || r.Token.Epoch > api.MaxCount || r.Token.Number < 0 || r.Token.Number > api.MaxCount {
		return false
	}
	switch r.Kind {
	case api.Begin:
		return r.Token.Number == 0 && isNoStep(r.Step)
	case api.Intent:
		return isStep(r.Step)
	case api.Done, api.Fail:
		return isNoStep(r.Step)
	}
	return false
}

func isStep(s api.Step) bool {
	return api.Create <= s.Op && s.Op <= api.Delete && rules.MayBe(s.Resource)
}

func isNoStep(s api.Step) bool {
	return s.Op == 0 && resource.Same(s.Resource, api.Resource{})
}

// Encode writes a record (P10).
func Encode(r api.Record) (string, api.Errno) {
	if !mayBe(r) {
		return "", api.ErrArg
	}
	b := wire.AppendNumber(nil, r.Kind, 1)
	b = wire.AppendNumber(b, r.Token.Epoch, countSize)
	b = wire.AppendNumber(b, r.Token.Number, countSize)
	if r.Kind == api.Intent {
		b = wire.AppendNumber(b, r.Step.Op, 1)
		b = appendResource(b, r.Step.Resource)
	}
	return string(b), api.OK
}

// Decode reads one (P10).
func Decode(s string) (api.Record, api.Errno) {
	r := readRecord(wire.NewReader(s))
	// Wrong bytes are read as something, too: what Encode gives of it must be all of s.
	again, errno := Encode(r)
	if errno != api.OK || again != s {
		return api.Record{}, api.ErrBytes
	}
	return r, api.OK
}

func readRecord(in *wire.Reader) api.Record {
	var r api.Record
	r.Kind = in.Number(1)
	r.Token.Epoch = in.Number(countSize)
	r.Token.Number = in.Number(countSize)
	if r.Kind == api.Intent {
		r.Step.Op = in.Number(1)
		r.Step.Resource = readResource(in)
	}
	return r
}
