package engine

// countdown is how many there are up to the one that is meant, with it; 0: none is meant.
type countdown int

// next counts one, and tells whether it is the one that is meant.
func (c *countdown) next() bool {
	if *c == 0 {
		return false
	}
	*c--
	return *c == 0
}

// halt is at which call of the world it breaks off, and what stays then.
type halt struct {
	calls       countdown
	behind      bool
	keep, names int
}

// faults is what goes wrong with later calls of the world.
type faults struct {
	refuse countdown
	halt   halt
}

// next counts a call, and tells whether it is to be halted, and to be refused. Both are counted
// at once: a call that is halted ahead counts for Refuse, too.
func (f *faults) next() (halted, refused bool) {
	return f.halt.calls.next(), f.refuse.next()
}
