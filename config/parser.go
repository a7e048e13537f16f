package config

import (
	"strings"

	"mason/api"
	"mason/rules"
	"mason/table"
)

const resourceWord = "resource"

// entry is a resource while it is read.
type entry struct {
	id       api.ID
	place    int // of its Kind
	attrs    *table.Table[string, api.Attr]
	hasAfter bool
	after    *table.Table[api.ID, struct{}]
}

// ref is what stands in an After, and where.
type ref struct {
	id    api.ID
	place int
}

// parser reads tokens; the resources and refs are kept in the order of the text too, since their errors are told in it.
type parser struct {
	tokens  []token // the last one is the end
	at      int
	entries *table.Table[api.ID, *entry]
	order   []*entry
	refs    []ref
}

func newParser(tokens []token) *parser {
	return &parser{tokens: tokens, entries: table.New[api.ID, *entry](rules.CompareIDs)}
}

// peek tells the kind of the token that comes.
func (p *parser) peek() int { return p.tokens[p.at].kind }

// take takes the token that comes, which must be of a kind. The end is never taken, so that there is always one that comes.
func (p *parser) take(kind int) (token, fault) {
	t := p.tokens[p.at]
	if t.kind != kind {
		return token{}, fault{api.ErrSyntax, t.place}
	}
	p.at++
	return t, fault{}
}

func (p *parser) readText() fault {
	for p.peek() != end {
		if f := p.readResource(); f.is() {
			return f
		}
	}
	return fault{}
}

func (p *parser) readResource() fault {
	e, f := p.readHead()
	if f.is() {
		return f
	}
	if _, f := p.take(openBrace); f.is() {
		return f
	}
	for p.peek() != closeBrace {
		if f := p.readLine(e); f.is() {
			return f
		}
	}
	_, f = p.take(closeBrace)
	return f
}

// readHead reads a resource up to its Name, and keeps it.
func (p *parser) readHead() (*entry, fault) {
	begin, f := p.take(word)
	if f.is() {
		return nil, f
	}
	if begin.text != resourceWord {
		return nil, fault{api.ErrSyntax, begin.place}
	}
	if p.entries.Len() == api.MaxResources {
		return nil, fault{api.ErrMany, begin.place}
	}
	kind, f := p.take(word)
	if f.is() {
		return nil, f
	}
	name, f := p.take(word)
	if f.is() {
		return nil, f
	}
	id := api.ID{Kind: kind.text, Name: name.text}
	if p.entries.Has(id) {
		return nil, fault{api.ErrTwice, kind.place}
	}
	return p.keep(id, kind.place), fault{}
}

func (p *parser) keep(id api.ID, place int) *entry {
	e := &entry{
		id:    id,
		place: place,
		attrs: table.New[string, api.Attr](strings.Compare),
		after: table.New[api.ID, struct{}](rules.CompareIDs),
	}
	p.entries.Put(id, e)
	p.order = append(p.order, e)
	return e
}

// readLine reads an Attr, or the After.
func (p *parser) readLine(e *entry) fault {
	name, f := p.take(word)
	if f.is() {
		return f
	}
	if errno := e.checkName(name.text); errno != api.OK {
		return fault{errno, name.place}
	}
	if _, f := p.take(equals); f.is() {
		return f
	}
	if name.text == rules.AfterWord {
		e.hasAfter = true
		return p.readList(e)
	}
	return p.readValue(e, name.text)
}

// checkName tells why a word may not stand ahead of one more `=`.
func (e *entry) checkName(name string) api.Errno {
	isAfter := name == rules.AfterWord
	switch {
	case !isAfter && e.attrs.Len() == api.MaxAttrs:
		return api.ErrMany
	case isAfter && e.hasAfter, e.attrs.Has(name):
		return api.ErrTwice
	}
	return api.OK
}

func (p *parser) readValue(e *entry, name string) fault {
	a := api.Attr{Name: name, IsText: p.peek() == quoted}
	kind := number
	if a.IsText {
		kind = quoted
	}
	t, f := p.take(kind)
	if f.is() {
		return f
	}
	a.Text, a.Number = t.text, t.value
	e.attrs.Put(name, a)
	return fault{}
}

func (p *parser) readList(e *entry) fault {
	if _, f := p.take(openBracket); f.is() {
		return f
	}
	if p.peek() != closeBracket {
		if f := p.readRefs(e); f.is() {
			return f
		}
	}
	_, f := p.take(closeBracket)
	return f
}

// readRefs reads one ref, and those that follow behind commas.
func (p *parser) readRefs(e *entry) fault {
	if f := p.readRef(e); f.is() {
		return f
	}
	for p.peek() == comma {
		if _, f := p.take(comma); f.is() {
			return f
		}
		if f := p.readRef(e); f.is() {
			return f
		}
	}
	return fault{}
}

func (p *parser) readRef(e *entry) fault {
	kind, f := p.take(word)
	if f.is() {
		return f
	}
	if _, f := p.take(dot); f.is() {
		return f
	}
	name, f := p.take(word)
	if f.is() {
		return f
	}
	id := api.ID{Kind: kind.text, Name: name.text}
	if e.after.Len() == api.MaxAfter {
		return fault{api.ErrMany, kind.place}
	}
	if e.after.Has(id) {
		return fault{api.ErrTwice, kind.place}
	}
	e.after.Put(id, struct{}{})
	p.refs = append(p.refs, ref{id, kind.place})
	return fault{}
}

// resources tells what was read, in the order of an answer, as new lists.
func (p *parser) resources() []api.Resource {
	var l []api.Resource
	for id, e := range p.entries.All() {
		l = append(l, api.Resource{ID: id, Attrs: e.attrs.Values(), After: e.after.Keys()})
	}
	return l
}
