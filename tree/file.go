package tree

import (
	"bytes"

	"permafrost/api"
)

// Append writes behind what is there: nothing that was written is written over.
func (t *Tree) Append(id int, b []byte) api.Errno {
	e, why := t.open(id)
	if why != api.OK {
		return why
	}
	if len(b) > api.MaxFile-e.Size {
		return api.ErrSpace
	}
	e.data = append(e.data, b...)
	e.Size = len(e.data)
	return api.OK
}

// Read reads what there is of the n bytes at that place.
func (t *Tree) Read(id, at, n int) ([]byte, api.Errno) {
	e, why := t.file(id)
	if why != api.OK {
		return nil, why
	}
	if at < 0 || n < 0 {
		return nil, api.ErrArg
	}
	// Both are cut to what is there, since their sum may be no int.
	rest := e.data[min(at, len(e.data)):]
	return bytes.Clone(rest[:min(n, len(rest))]), api.OK
}

// Seal closes a file. One that has no name could be found by nobody any more.
func (t *Tree) Seal(id int, until uint64) api.Errno {
	e, why := t.open(id)
	if why != api.OK {
		return why
	}
	if until > api.MaxTime {
		return api.ErrArg
	}
	e.Closed = true
	e.Until = until
	if e.Links == 0 {
		t.remove(id)
	}
	return api.OK
}

// Keep never shortens the time that a file is kept.
func (t *Tree) Keep(id int, until uint64) api.Errno {
	e, why := t.file(id)
	if why != api.OK {
		return why
	}
	if !e.Closed {
		return api.ErrBusy
	}
	if until < e.Until {
		return api.ErrKept
	}
	if until > api.MaxTime {
		return api.ErrArg
	}
	e.Until = until
	return api.OK
}

// Drop ends a file that was never closed, wherever its names stand.
func (t *Tree) Drop(id int) api.Errno {
	if _, why := t.open(id); why != api.OK {
		return why
	}
	for _, e := range t.all {
		e.forget(id)
	}
	t.remove(id)
	return api.OK
}

// file is the file of that ID.
func (t *Tree) file(id int) (*entry, api.Errno) {
	e := t.find(id)
	if e == nil {
		return nil, api.ErrNone
	}
	if e.Kind == api.Dir {
		return nil, api.ErrDir
	}
	return e, api.OK
}

// open is the file of that ID, if it may still be written.
func (t *Tree) open(id int) (*entry, api.Errno) {
	e, why := t.file(id)
	if why != api.OK {
		return nil, why
	}
	if e.Closed {
		return nil, api.ErrSealed
	}
	return e, api.OK
}
