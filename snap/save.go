package snap

import (
	"bytes"

	"permafrost/api"
	"permafrost/codec"
	"permafrost/sha"
	"permafrost/tree"
)

// Save has the ID and the Hash that the next snapshot goes on from ahead of the
// snapshots, since the one that was taken last may be forgotten.
func (s *Snaps) Save() []byte {
	w := codec.NewWriter()
	w.Long(uint64(s.next))
	w.Bytes(s.last)
	w.Byte(len(s.all))
	for _, x := range s.all {
		w.Long(uint64(x.id))
		w.Bytes(x.hash)
		// A tree may be longer than Bytes can tell.
		w.Long(uint64(len(x.tree)))
		w.Raw(x.tree)
	}
	return w.Done()
}

// Load does not reckon Hashes anew: those that were taken ahead may be
// forgotten, so that there is nothing to reckon them of.
func Load(b []byte) (*Snaps, api.Errno) {
	r := codec.NewReader(b)
	next := r.Long()
	last := r.Bytes()
	if !goesOn(next, last) {
		return nil, api.ErrForm
	}
	n := r.Byte()
	if n > api.MaxSnaps {
		return nil, api.ErrForm
	}
	s := &Snaps{next: int(next), last: last}
	ahead := 0
	for range n {
		x, ok := readSnapshot(r)
		if !ok || x.id <= ahead || x.id >= s.next {
			return nil, api.ErrForm
		}
		s.all = append(s.all, x)
		ahead = x.id
	}
	if r.End() != api.OK {
		return nil, api.ErrForm
	}
	return s, api.OK
}

// goesOn tells if a snapshot may be taken behind these: there is a last Hash if
// one was taken ahead, and only then.
func goesOn(next uint64, last []byte) bool {
	if next < firstID || next > api.MaxTime {
		return false
	}
	if next == firstID {
		return len(last) == 0
	}
	return len(last) == sha.Size
}

// readSnapshot asks all but how the ID stands to others. Numbers that may be
// too great are held against others ahead of becoming an int.
func readSnapshot(r *codec.Reader) (snapshot, bool) {
	id := r.Long()
	hash := r.Bytes()
	size := r.Long()
	if id > api.MaxTime || len(hash) != sha.Size || size > uint64(r.Left()) {
		return snapshot{}, false
	}
	x := snapshot{int(id), hash, r.Raw(int(size))}
	return x, isCommitted(x.tree)
}

// isCommitted tells if these are the bytes of a tree that is its own Committed.
func isCommitted(saved []byte) bool {
	t, why := tree.Load(saved)
	return why == api.OK && bytes.Equal(Committed(t).Save(), saved)
}
