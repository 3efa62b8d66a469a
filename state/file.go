package state

import (
	"permafrost/api"
	"permafrost/tree"
)

// descriptor leads to a node of some tree. A free one has no tree.
type descriptor struct {
	tree   *tree.Tree
	id     int
	writes bool
}

func (d descriptor) free() bool {
	return d.tree == nil
}

// leastFree is the least descriptor that is free, below 0 if none is.
func (s *State) leastFree() int {
	for fd, d := range s.fds {
		if d.free() {
			return fd
		}
	}
	return -1
}

// used is the descriptor of that number, unless there is none, or it is free.
func (s *State) used(fd int) (descriptor, api.Errno) {
	if fd < 0 || fd >= len(s.fds) || s.fds[fd].free() {
		return descriptor{}, api.ErrBad
	}
	return s.fds[fd], api.OK
}

// create asks for a descriptor ahead of making a file: one that nobody could
// write would stay open for good.
func (s *State) create(p []string) api.Reply {
	fd := s.leastFree()
	if fd < 0 {
		return api.Reply{Err: api.ErrBusy}
	}
	id, why := s.tree.Make(p, api.File)
	if why != api.OK {
		return api.Reply{Err: why}
	}
	s.fds[fd] = descriptor{s.tree, id, true}
	return api.Reply{N: fd}
}

// openFile opens a file for reading, as it is now or as it was.
func (s *State) openFile(p []string, snapshot int) api.Reply {
	t, why := s.treeAt(snapshot)
	if why != api.OK {
		return api.Reply{Err: why}
	}
	fd := s.leastFree()
	if fd < 0 {
		return api.Reply{Err: api.ErrBusy}
	}
	n, why := look(t, p)
	if why != api.OK {
		return api.Reply{Err: why}
	}
	if n.Kind == api.Dir {
		return api.Reply{Err: api.ErrDir}
	}
	if !n.Closed {
		return api.Reply{Err: api.ErrBusy}
	}
	b, _ := t.Read(n.ID, 0, n.Size)
	s.fds[fd] = alone(b)
	return api.Reply{N: fd}
}

// alone leads to a file with these bytes in a tree that nobody else has. They
// are those of a closed file, so that they need never be changed; but that file
// may be unlinked, and its ID given to another.
func alone(b []byte) descriptor {
	t := tree.New()
	id, _ := t.Make([]string{"file"}, api.File)
	t.Append(id, b)
	return descriptor{tree: t, id: id}
}

// readFile reads what a descriptor was opened for.
func (s *State) readFile(fd, at, n int) api.Reply {
	d, why := s.used(fd)
	if why != api.OK {
		return api.Reply{Err: why}
	}
	if d.writes {
		return api.Reply{Err: api.ErrBad}
	}
	b, why := d.tree.Read(d.id, at, n)
	return api.Reply{Err: why, N: len(b), Data: b}
}

// writeFile writes at the end of what was created.
func (s *State) writeFile(fd int, b []byte) api.Reply {
	d, why := s.used(fd)
	if why != api.OK {
		return api.Reply{Err: why}
	}
	if !d.writes {
		return api.Reply{Err: api.ErrBad}
	}
	if len(b) > api.MaxWrite {
		return api.Reply{Err: api.ErrLong}
	}
	if why := d.tree.Append(d.id, b); why != api.OK {
		return api.Reply{Err: why}
	}
	return api.Reply{N: len(b)}
}

// closeFile leaves the descriptor as it is where the file can't be closed: it is
// the only way to it.
func (s *State) closeFile(fd int, until uint64) api.Errno {
	d, why := s.used(fd)
	if why != api.OK {
		return why
	}
	if d.writes {
		if why := d.tree.Seal(d.id, until); why != api.OK {
			return why
		}
	}
	s.fds[fd] = descriptor{}
	return api.OK
}
