package disk

import (
	"strings"

	"mason/table"
)

// change is one of the names: a name goes, and then a file (if there is one) gets a name.
type change struct {
	gone, name string
	file       *file
}

// nameTable is which file has which name.
type nameTable = table.Table[string, *file]

func (c change) do(t *nameTable) {
	t.Take(c.gone)
	if c.file != nil {
		t.Put(c.name, c.file)
	}
}

// names is the names as they are, and what of them would be lost.
type names struct {
	now     *nameTable
	lasting *nameTable
	changes []change // those that do not last: they lead from lasting to now
}

func newNames() *names {
	empty := table.New[string, *file](strings.Compare)
	return &names{now: empty.Copy(), lasting: empty}
}

// change makes a change that does not last.
func (n *names) change(c change) {
	// A name may be a piece of a long text of the caller, that must not be kept.
	c.gone, c.name = strings.Clone(c.gone), strings.Clone(c.name)
	c.do(n.now)
	n.changes = append(n.changes, c)
}

// settle lets the first count changes last; the others are as if they had not been.
func (n *names) settle(count int) {
	for _, c := range n.changes[:count] {
		c.do(n.lasting)
	}
	n.changes = nil
	n.now = n.lasting.Copy()
}
