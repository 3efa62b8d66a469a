package tree

import (
	"slices"
	"strings"

	"permafrost/api"
	"permafrost/path"
)

// Link gives a file one name more. A directory has one alone: with two there
// would be ways without end.
func (t *Tree) Link(p, to []string) api.Errno {
	if why := formed(p, to); why != api.OK {
		return why
	}
	e, why := t.fileAt(p)
	if why != api.OK {
		return why
	}
	dir, last, why := t.place(to)
	if why != api.OK {
		return why
	}
	if dir.has(last) {
		return api.ErrThere
	}
	if e.Links >= api.MaxNodes {
		return api.ErrMany
	}
	dir.put(last, e.ID)
	e.Links++
	return api.OK
}

// Unlink takes one name of a file away. One that is not Closed is still being
// written by someone, and so outlives its last name.
func (t *Tree) Unlink(p []string) api.Errno {
	if why := formed(p); why != api.OK {
		return why
	}
	e, why := t.fileAt(p)
	if why != api.OK {
		return why
	}
	dir, last, why := t.place(p)
	if why != api.OK {
		return why
	}
	dir.drop(last)
	e.Links--
	if e.Links == 0 && e.Closed {
		t.remove(e.ID)
	}
	return api.OK
}

// Rmdir ends a directory in which nothing stands.
func (t *Tree) Rmdir(p []string) api.Errno {
	if why := formed(p); why != api.OK {
		return why
	}
	e, why := t.at(p)
	if why != api.OK {
		return why
	}
	if e.Kind != api.Dir {
		return api.ErrNotDir
	}
	// Of `/` this is ErrArg; ahead of a name that was found stands a directory.
	dir, last, why := t.place(p)
	if why != api.OK {
		return why
	}
	if len(e.names) > 0 {
		return api.ErrFull
	}
	dir.drop(last)
	t.remove(e.ID)
	return api.OK
}

// Rename gives a node another name instead of the one at p; its other names
// stay.
func (t *Tree) Rename(p, to []string) api.Errno {
	if why := formed(p, to); why != api.OK {
		return why
	}
	e, why := t.at(p)
	if why != api.OK {
		return why
	}
	// Of `/` this is ErrArg, as in Rmdir.
	from, was, why := t.place(p)
	if why != api.OK {
		return why
	}
	dir, last, why := t.place(to)
	if why != api.OK {
		return why
	}
	if e.Kind == api.Dir && path.Within(to, p) {
		return api.ErrArg
	}
	if id, ok := dir.id(last); ok && id == e.ID {
		return api.OK
	} else if ok {
		return api.ErrThere
	}
	if len(to)+t.height(e) > api.MaxDepth {
		return api.ErrLong
	}
	from.drop(was)
	dir.put(last, e.ID)
	return api.OK
}

// Names goes through the whole tree: a node does not know its names. `/` has
// one path, that of no names.
func (t *Tree) Names(id int) [][]string {
	var l [][]string
	if id == root {
		l = append(l, nil)
	}
	t.walk(t.find(root), nil, func(p []string, e *entry) {
		if e.ID == id {
			l = append(l, slices.Clone(p))
		}
	})
	// Not as the walk goes: `/a-b` is ahead of `/a/b`.
	slices.SortFunc(l, func(a, b []string) int { return strings.Compare(path.Join(a), path.Join(b)) })
	return l
}

// fileAt is the file at p.
func (t *Tree) fileAt(p []string) (*entry, api.Errno) {
	e, why := t.at(p)
	if why != api.OK {
		return nil, why
	}
	if e.Kind == api.Dir {
		return nil, api.ErrDir
	}
	return e, api.OK
}

// walk shows all names below e, each with those ahead of it and with its node.
// The list is lent: the next one is written over it.
func (t *Tree) walk(e *entry, ahead []string, show func(p []string, e *entry)) {
	for _, n := range e.names {
		p, below := append(ahead, n.text), t.find(n.id)
		show(p, below)
		t.walk(below, p, show)
	}
}

// height is how many names stand below e, one within the other, where they are
// most.
func (t *Tree) height(e *entry) int {
	most := 0
	t.walk(e, nil, func(p []string, _ *entry) { most = max(most, len(p)) })
	return most
}
