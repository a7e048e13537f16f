package disk

import "mason/api"

// breakOff is when the disk breaks off, and what stays then.
type breakOff struct {
	acts        int // how many acts there are up to that one, with it; 0: none breaks off
	keep, names int
}

// Break lets a later act break off (P9).
func (d *Disk) Break(k, keep, names int) api.Errno {
	if k < 0 {
		return api.ErrArg
	}
	d.off = breakOff{acts: k, keep: keep, names: names}
	return api.OK
}

// Crash loses what does not last (P9).
func (d *Disk) Crash(keep, names int) {
	d.names.settle(atMost(names, len(d.names.changes)))
	for _, f := range d.names.now.All() {
		f.crash(keep)
	}
	d.off = breakOff{}
}

// act does an act of the disk. If it breaks off, nobody hears whether it had an error.
func (d *Disk) act(do func() api.Errno) api.Errno {
	if !d.breaksNow() {
		return do()
	}
	do()
	return d.fall()
}

// syncAct is act for what makes things last: when it breaks off, it does nothing.
func (d *Disk) syncAct(do func() api.Errno) api.Errno {
	if !d.breaksNow() {
		return do()
	}
	return d.fall()
}

// breaksNow counts the act that begins, and tells whether it is the one that breaks off.
func (d *Disk) breaksNow() bool {
	if d.off.acts == 0 {
		return false
	}
	d.off.acts--
	return d.off.acts == 0
}

func (d *Disk) fall() api.Errno {
	d.Crash(d.off.keep, d.off.names)
	return api.ErrDown
}
