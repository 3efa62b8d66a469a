package state

import (
	"bytes"

	"permafrost/api"
	"permafrost/clock"
	"permafrost/codec"
	"permafrost/snap"
	"permafrost/tree"
)

// Settled leaves out what only those know who have a descriptor. Where Tree or
// Snaps is nil there is no such State either: nil.
func (s *State) Settled() *State {
	t, l := snap.Committed(s.tree), s.Snaps()
	if t == nil || l == nil {
		return nil
	}
	return &State{tree: t, snaps: l, now: s.now}
}

// Save tells what is settled. A tree that its own Save can't tell has none.
func (s *State) Save() []byte {
	t := snap.Committed(s.tree)
	if t == nil {
		return nil
	}
	saved := t.Save()
	w := codec.NewWriter()
	w.Long(s.now)
	// A tree may be longer than Bytes can tell.
	w.Long(uint64(len(saved)))
	w.Raw(saved)
	w.Raw(s.snaps.Save())
	return w.Done()
}

// Load leaves to tree and snap what stands in their parts.
func Load(b []byte) (*State, api.Errno) {
	r := codec.NewReader(b)
	now := r.Long()
	size := r.Long()
	// A number that may be too great is held against another ahead of becoming
	// an int.
	if !clock.Right(now) || size > uint64(r.Left()) {
		return nil, api.ErrForm
	}
	saved := r.Raw(int(size))
	t, why := tree.Load(saved)
	if why != api.OK || !bytes.Equal(snap.Committed(t).Save(), saved) {
		return nil, api.ErrForm
	}
	l, why := snap.Load(r.Raw(r.Left()))
	if why != api.OK {
		return nil, api.ErrForm
	}
	return &State{tree: t, snaps: l, now: now}, api.OK
}
