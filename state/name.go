package state

import (
	"permafrost/api"
	"permafrost/tree"
	"permafrost/worm"
)

// treeAt is the tree as it is now, or a snapshot's. No snapshot has the ID 0, so
// that it may stand for now.
func (s *State) treeAt(snapshot int) (*tree.Tree, api.Errno) {
	if snapshot == 0 {
		return s.tree, api.OK
	}
	t, ok := s.snaps.Get(snapshot)
	if !ok {
		return nil, api.ErrSnap
	}
	return t, api.OK
}

// look is the node at p.
func look(t *tree.Tree, p []string) (api.Node, api.Errno) {
	id, why := t.Look(p)
	if why != api.OK {
		return api.Node{}, why
	}
	n, _ := t.Node(id)
	return n, api.OK
}

// unlink asks the rules of kept files first: the tree knows no times.
func (s *State) unlink(p []string) api.Errno {
	n, why := look(s.tree, p)
	if why != api.OK {
		return why
	}
	if why := worm.Remove(n, s.now); why != api.OK {
		return why
	}
	return s.tree.Unlink(p)
}

// keep asks those rules, too.
func (s *State) keep(p []string, until uint64) api.Errno {
	n, why := look(s.tree, p)
	if why != api.OK {
		return why
	}
	if why := worm.Keep(n, until); why != api.OK {
		return why
	}
	return s.tree.Keep(n.ID, until)
}

// list tells the names in a directory, as they are now or as they were.
func (s *State) list(p []string, snapshot int) api.Reply {
	t, why := s.treeAt(snapshot)
	if why != api.OK {
		return api.Reply{Err: why}
	}
	id, why := t.Look(p)
	if why != api.OK {
		return api.Reply{Err: why}
	}
	l, why := t.List(id)
	return api.Reply{Err: why, N: len(l), Names: l}
}

// stat tells a node, as it is now or as it was.
func (s *State) stat(p []string, snapshot int) api.Reply {
	t, why := s.treeAt(snapshot)
	if why != api.OK {
		return api.Reply{Err: why}
	}
	n, why := look(t, p)
	return api.Reply{Err: why, Node: n}
}

// take keeps the tree as it is, without what is still being written.
func (s *State) take() api.Reply {
	id, why := s.snaps.Take(s.tree)
	return api.Reply{Err: why, N: id}
}
