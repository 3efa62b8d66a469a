package tree

import (
	"permafrost/api"
	"permafrost/codec"
	"permafrost/node"
	"permafrost/path"
)

// Save has one row of bytes for each tree: nodes and names stand in their
// order, however they came to be.
func (t *Tree) Save() []byte {
	w := codec.NewWriter()
	w.Short(len(t.all))
	for _, e := range t.all {
		// A tree's nodes are Right, so that none is refused.
		b, _ := node.Encode(e.Node)
		w.Bytes(b)
		w.Bytes(e.data)
		w.Short(len(e.names))
		for _, n := range e.names {
			w.Bytes([]byte(n.text))
			w.Short(n.id)
		}
	}
	return w.Done()
}

// Load reads all nodes ahead of asking if they are a tree, since a name may be
// that of a node which stands behind it.
func Load(b []byte) (*Tree, api.Errno) {
	r := codec.NewReader(b)
	n := r.Short()
	if n > api.MaxNodes {
		return nil, api.ErrForm
	}
	t := &Tree{}
	for range n {
		e, ok := readEntry(r)
		if !ok {
			return nil, api.ErrForm
		}
		t.all = append(t.all, e)
	}
	if r.End() != api.OK || !t.right() {
		return nil, api.ErrForm
	}
	return t, api.OK
}

// readEntry reads a node, and what it holds. It ends at the first name that is
// wrong: where bytes lack that is one of no letters, so that a count of very
// many names, which are not there, costs nothing.
func readEntry(r *codec.Reader) (*entry, bool) {
	n, why := node.Decode(r.Bytes())
	if why != api.OK {
		return nil, false
	}
	e := &entry{Node: n, data: r.Bytes()}
	last := ""
	for range r.Short() {
		text := string(r.Bytes())
		if !path.Good(text) || text <= last {
			return nil, false
		}
		e.names = append(e.names, name{text, r.Short()})
		last = text
	}
	return e, len(e.data) == n.Size
}

// right tells if nodes that are Right are a tree.
func (t *Tree) right() bool {
	if len(t.all) == 0 || t.all[0].ID != root || t.all[0].Kind != api.Dir {
		return false
	}
	for i, e := range t.all {
		if i > 0 && e.ID <= t.all[i-1].ID || !t.leads(e) {
			return false
		}
	}
	return t.linked() && t.joined()
}

// leads tells if e's names are of nodes that may have one. A file has no names
// for others.
func (t *Tree) leads(e *entry) bool {
	if e.Kind == api.File {
		return len(e.names) == 0
	}
	for _, n := range e.names {
		if n.id == root || t.find(n.id) == nil {
			return false
		}
	}
	return true
}

// linked tells if each node has as many names as it may and as its Links are.
// The one name of `/` stands in no directory.
func (t *Tree) linked() bool {
	named := map[int]int{root: 1}
	for _, e := range t.all {
		for _, n := range e.names {
			named[n.id]++
		}
	}
	for _, e := range t.all {
		if named[e.ID] != e.Links {
			return false
		}
		if e.Kind == api.Dir && e.Links != 1 || e.Closed && e.Links == 0 {
			return false
		}
	}
	return true
}

// joined tells if all that has a name is found from `/` on, and not too deep.
// It is asked behind linked: where each directory has one name the walk comes
// to none twice, and those that it does not come to are within one another.
func (t *Tree) joined() bool {
	dirs := 0
	for _, e := range t.all {
		if e.Kind == api.Dir {
			dirs++
		}
	}
	found, most := 1, 0
	t.walk(t.all[0], nil, func(p []string, e *entry) {
		if e.Kind == api.Dir {
			found++
		}
		most = max(most, len(p))
	})
	return found == dirs && most <= api.MaxDepth
}
