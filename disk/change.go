package disk

import "escapement/api"

// Create makes an empty segment.
func (d *Disk) Create(seg int) api.Errno {
	if d.down {
		return api.ErrDiskDown
	}
	if seg < 1 || seg > api.MaxCount {
		return api.ErrDiskNumber
	}
	_, there := d.there[seg]
	// One that is taken away is not there, but open to loss.
	_, open := d.open[seg]
	if there || open {
		return api.ErrDiskThere
	}
	if d.room() < api.SegCost {
		return api.ErrDiskFull
	}
	d.there[seg] = nil
	d.open[seg] = past{}
	d.used += api.SegCost
	return d.spend()
}

// Append lays bytes behind a segment's.
func (d *Disk) Append(seg int, b []byte) api.Errno {
	bytes, code := d.find(seg)
	if code != api.OK {
		return code
	}
	if len(b) > d.room() {
		return api.ErrDiskFull
	}
	// Without a byte more it has not grown, and has no fate.
	if _, open := d.open[seg]; !open && len(b) > 0 {
		d.open[seg] = past{safe: true, count: len(bytes)}
	}
	d.there[seg] = lay(bytes, b)
	d.used += len(b)
	return d.spend()
}

// Remove takes a segment away.
func (d *Disk) Remove(seg int) api.Errno {
	bytes, code := d.find(seg)
	if code != api.OK {
		return code
	}
	p, open := d.open[seg]
	if !open {
		p = past{safe: true, count: len(bytes)}
	}
	d.drop(seg)
	if p.safe {
		d.open[seg] = past{safe: true, bytes: cut(bytes, p.count)}
	} else {
		delete(d.open, seg)
	}
	return d.spend()
}

// Sync makes all safe.
func (d *Disk) Sync() api.Errno {
	if d.down {
		return api.ErrDiskDown
	}
	// It is the one call that is not done where the power goes in it.
	if code := d.spend(); code != api.OK {
		return code
	}
	clear(d.open)
	return api.OK
}

// Arm lets the power go in the call behind so many further ones.
func (d *Disk) Arm(calls int) api.Errno {
	if d.down {
		return api.ErrDiskDown
	}
	if calls < 0 {
		return api.ErrArg
	}
	d.armed, d.calls = true, calls
	return api.OK
}

// spend counts a changing call that nothing refuses, and is its answer.
func (d *Disk) spend() api.Errno {
	if !d.armed {
		return api.OK
	}
	if d.calls == 0 {
		d.down = true
		return api.ErrDiskDown
	}
	d.calls--
	return api.OK
}

// Crash lets the power go, and come back: fate says what is left of what was not safe.
func (d *Disk) Crash(fate []int) {
	for i, seg := range rising(d.open) {
		f := 0
		if i < len(fate) {
			f = max(fate[i], 0)
		}
		d.strike(seg, f)
	}
	clear(d.open)
	d.armed, d.calls, d.down = false, 0, false
}

// strike lets a segment that is open to loss have its fate, which is not below 0.
func (d *Disk) strike(seg, fate int) {
	bytes, there := d.there[seg]
	p := d.open[seg]
	switch {
	case there && p.safe:
		// The sum of both could be beyond what an int holds.
		d.shorten(seg, p.count+min(fate, len(bytes)-p.count))
	case there && fate > 0:
		d.shorten(seg, min(fate-1, len(bytes)))
	case there:
		d.drop(seg)
	case fate > 0:
		d.there[seg] = p.bytes
		d.used += api.SegCost + len(p.bytes)
	}
}

// shorten leaves a segment its first count bytes.
func (d *Disk) shorten(seg, count int) {
	bytes := d.there[seg]
	d.used -= len(bytes) - count
	d.there[seg] = cut(bytes, count)
}

// drop lets a segment be there no more.
func (d *Disk) drop(seg int) {
	d.used -= api.SegCost + len(d.there[seg])
	delete(d.there, seg)
}

// cut is the first count bytes; the others are lost, and not to be found in
// the room behind them.
func cut(bytes []byte, count int) []byte {
	clear(bytes[count:])
	return bytes[:count]
}
