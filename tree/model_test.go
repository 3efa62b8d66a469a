package tree_test

import (
	"bytes"
	"maps"
	"math/rand"
	"slices"
	"strings"
	"testing"

	"permafrost/api"
	"permafrost/tree"
)

// model is a tree as the chapter tells it, kept as nothing but a list of whole
// paths: slow, and another way than the program's.
type model struct {
	nodes map[int]api.Node
	data  map[int]string
	at    map[string]int // by whole paths as texts, `/` as no bytes
}

func newModel() *model {
	root := api.Node{Kind: dir, Links: 1, Closed: true}
	return &model{map[int]api.Node{0: root}, map[int]string{}, map[string]int{"": 0}}
}

// key is a path as the model has it.
func key(p []string) string {
	s := ""
	for _, name := range p {
		s += "/" + name
	}
	return s
}

// formed is asked of p, then of to, first of all.
func (m *model) formed(paths ...[]string) api.Errno {
	for _, p := range paths {
		for _, name := range p {
			if !goodName(name) {
				return api.ErrForm
			}
		}
		if len(p) > mostDepth {
			return api.ErrLong
		}
	}
	return api.OK
}

func (m *model) look(p []string) (int, api.Errno) {
	for i := range p {
		if m.nodes[m.at[key(p[:i])]].Kind == file {
			return 0, api.ErrNotDir
		}
		if _, ok := m.at[key(p[:i+1])]; !ok {
			return 0, api.ErrNone
		}
	}
	return m.at[key(p)], api.OK
}

// place is the refusal of the place of p.
func (m *model) place(p []string) api.Errno {
	if len(p) == 0 {
		return api.ErrArg
	}
	id, why := m.look(p[:len(p)-1])
	if why == api.OK && m.nodes[id].Kind == file {
		return api.ErrNotDir
	}
	return why
}

// first is the first of these that refuses.
func first(l ...api.Errno) api.Errno {
	for _, why := range l {
		if why != api.OK {
			return why
		}
	}
	return api.OK
}

// when is why, if that is so.
func when(so bool, why api.Errno) api.Errno {
	if so {
		return why
	}
	return api.OK
}

func (m *model) has(p []string) bool {
	_, ok := m.at[key(p)]
	return ok
}

func (m *model) make(p []string, kind int) (int, api.Errno) {
	why := first(m.formed(p), when(kind != file && kind != dir, api.ErrKind))
	if why == api.OK {
		why = first(m.place(p), when(m.has(p), api.ErrThere), when(len(m.nodes) >= mostNodes, api.ErrMany))
	}
	if why != api.OK {
		return 0, why
	}
	id := 1
	for m.nodes[id].Kind != 0 {
		id++
	}
	m.nodes[id] = api.Node{ID: id, Kind: kind, Links: 1, Closed: kind == dir}
	m.at[key(p)] = id
	return id, api.OK
}

func (m *model) link(p, to []string) api.Errno {
	if why := m.formed(p, to); why != api.OK {
		return why
	}
	id, why := m.look(p)
	n := m.nodes[id]
	if why = first(why, when(n.Kind == dir, api.ErrDir)); why != api.OK {
		return why
	}
	if why = first(m.place(to), when(m.has(to), api.ErrThere), when(n.Links >= mostNames, api.ErrMany)); why != api.OK {
		return why
	}
	m.at[key(to)] = id
	n.Links++
	m.nodes[id] = n
	return api.OK
}

func (m *model) end(id int) {
	delete(m.nodes, id)
	delete(m.data, id)
	maps.DeleteFunc(m.at, func(_ string, other int) bool { return other == id })
}

func (m *model) unlink(p []string) api.Errno {
	if why := m.formed(p); why != api.OK {
		return why
	}
	id, why := m.look(p)
	n := m.nodes[id]
	if why = first(why, when(n.Kind == dir, api.ErrDir)); why != api.OK {
		return why
	}
	delete(m.at, key(p))
	n.Links--
	m.nodes[id] = n
	if n.Links == 0 && n.Closed {
		m.end(id)
	}
	return api.OK
}

// below are the keys below a key.
func (m *model) below(k string) []string {
	var l []string
	for other := range m.at {
		if strings.HasPrefix(other, k+"/") {
			l = append(l, other)
		}
	}
	return l
}

func (m *model) rmdir(p []string) api.Errno {
	if why := m.formed(p); why != api.OK {
		return why
	}
	id, why := m.look(p)
	why = first(why, when(m.nodes[id].Kind == file, api.ErrNotDir), when(len(p) == 0, api.ErrArg), when(len(m.below(key(p))) > 0, api.ErrFull))
	if why == api.OK {
		m.end(id)
	}
	return why
}

func (m *model) rename(p, to []string) api.Errno {
	if why := m.formed(p, to); why != api.OK {
		return why
	}
	id, why := m.look(p)
	if why = first(why, when(len(p) == 0, api.ErrArg), m.place(to)); why != api.OK {
		return why
	}
	within := len(to) >= len(p) && slices.Equal(to[:len(p)], p)
	if m.nodes[id].Kind == dir && within {
		return api.ErrArg
	}
	if other, ok := m.at[key(to)]; ok {
		return when(other != id, api.ErrThere)
	}
	for _, k := range m.below(key(p)) {
		if strings.Count(k, "/")-len(p)+len(to) > mostDepth {
			return api.ErrLong
		}
	}
	for _, k := range m.below(key(p)) {
		m.at[key(to)+strings.TrimPrefix(k, key(p))] = m.at[k]
		delete(m.at, k)
	}
	delete(m.at, key(p))
	m.at[key(to)] = id
	return api.OK
}

// file is the refusal of an ID that is no file's.
func (m *model) file(id int) api.Errno {
	n, ok := m.nodes[id]
	return first(when(!ok, api.ErrNone), when(n.Kind == dir, api.ErrDir))
}

func (m *model) append(id int, b []byte) api.Errno {
	n := m.nodes[id]
	why := first(m.file(id), when(n.Closed, api.ErrSealed), when(n.Size+len(b) > mostSize, api.ErrSpace))
	if why == api.OK {
		m.data[id] += string(b)
		n.Size += len(b)
		m.nodes[id] = n
	}
	return why
}

func (m *model) seal(id int, until uint64) api.Errno {
	n := m.nodes[id]
	why := first(m.file(id), when(n.Closed, api.ErrSealed), when(until > lastTime, api.ErrArg))
	if why == api.OK {
		n.Closed, n.Until = true, until
		m.nodes[id] = n
		if n.Links == 0 {
			m.end(id)
		}
	}
	return why
}

func (m *model) keep(id int, until uint64) api.Errno {
	n := m.nodes[id]
	why := first(m.file(id), when(!n.Closed, api.ErrBusy), when(until < n.Until, api.ErrKept), when(until > lastTime, api.ErrArg))
	if why == api.OK {
		n.Until = until
		m.nodes[id] = n
	}
	return why
}

func (m *model) drop(id int) api.Errno {
	why := first(m.file(id), when(m.nodes[id].Closed, api.ErrSealed))
	if why == api.OK {
		m.end(id)
	}
	return why
}

// rows are what the model's Save is made of.
func (m *model) rows() []row {
	var l []row
	for _, id := range slices.Sorted(maps.Keys(m.nodes)) {
		x := row{node: m.nodes[id], data: m.data[id]}
		for _, k := range slices.Sorted(maps.Keys(m.at)) {
			i := strings.LastIndexByte(k, '/')
			if i >= 0 && m.nodes[id].Kind == dir && m.at[k[:i]] == id {
				x.names = append(x.names, child{k[i+1:], m.at[k]})
			}
		}
		sortNames(x.names)
		l = append(l, x)
	}
	return l
}

// pick is a path that is often there, and now and then none at all.
func (m *model) pick(r *rand.Rand) []string {
	texts := []string{"a", "b", "c", "a-b", "d.e", "f"}
	switch r.Intn(40) {
	case 0:
		return append(deep(r.Intn(11)), "B")
	case 1:
		return deep(r.Intn(12))
	case 2:
		return nil
	}
	keys := slices.Sorted(maps.Keys(m.at))
	k := keys[r.Intn(len(keys))]
	var p []string
	if k != "" {
		p = names(k)
	}
	for range r.Intn(3) {
		p = append(p, texts[r.Intn(len(texts))])
	}
	return p
}

// same holds that the tree is as the model is.
func same(t *testing.T, tr *tree.Tree, m *model) {
	t.Helper()
	want := image(m.rows())
	if got := tr.Save(); !bytes.Equal(got, want) {
		t.Fatalf("P11: the tree is another than it must be:\n% x\n% x", got, want)
	}
	if tr.Count() != len(m.nodes) {
		t.Fatalf("P11.4: Count: %d, must be %d", tr.Count(), len(m.nodes))
	}
}

// sameToAsk holds what may be asked of each node.
func sameToAsk(t *testing.T, tr *tree.Tree, m *model) {
	t.Helper()
	for _, x := range m.rows() {
		id := x.node.ID
		isNode(t, tr, x.node)
		var texts, paths []string
		for _, n := range x.names {
			texts = append(texts, n.text)
		}
		for _, k := range slices.Sorted(maps.Keys(m.at)) {
			if m.at[k] == id {
				paths = append(paths, "/"+strings.TrimPrefix(k, "/"))
			}
		}
		named(t, tr, id, paths...)
		if x.node.Kind == dir {
			lists(t, tr, id, texts...)
		} else {
			holds(t, tr, id, x.data)
		}
	}
	loads(t, "what came to be", tr.Save())
}

// step does the same to both, and holds what is answered.
func step(t *testing.T, r *rand.Rand, tr *tree.Tree, m *model) {
	t.Helper()
	p, to, id := m.pick(r), m.pick(r), r.Intn(mostNodes+3)-1
	until := []uint64{0, 1, 5, 9, lastTime, lastTime + 1}[r.Intn(6)]
	what := r.Intn(20)
	var got, want api.Errno
	var n, must int
	switch what {
	case 0, 1, 2, 3, 4:
		kind := []int{file, dir, dir, 3}[r.Intn(4)]
		n, got = tr.Make(p, kind)
		must, want = m.make(p, kind)
	case 5, 6:
		n, got = tr.Look(p)
		if want = m.formed(p); want == api.OK {
			must, want = m.look(p)
		}
	case 7, 8:
		got, want = tr.Link(p, to), m.link(p, to)
	case 9:
		got, want = tr.Unlink(p), m.unlink(p)
	case 10:
		got, want = tr.Rmdir(p), m.rmdir(p)
	case 11, 12, 13:
		got, want = tr.Rename(p, to), m.rename(p, to)
	case 14, 15:
		b := bytes.Repeat([]byte{byte(what)}, []int{0, 1, 3, 700, 4096}[r.Intn(5)])
		got, want = tr.Append(id, b), m.append(id, b)
	case 16:
		got, want = tr.Seal(id, until), m.seal(id, until)
	case 17, 18:
		got, want = tr.Keep(id, until), m.keep(id, until)
	case 19:
		got, want = tr.Drop(id), m.drop(id)
	}
	if got != want || n != must {
		t.Fatalf("P11: call %d of %q, %q, %d, %d: %d, %d, must be %d, %d", what, p, to, id, until, n, int(got), must, int(want))
	}
}

func TestManyCalls(t *testing.T) {
	r := rand.New(rand.NewSource(1))
	for range 60 {
		tr, m := tree.New(), newModel()
		for i := range 500 {
			step(t, r, tr, m)
			same(t, tr, m)
			if i%50 == 0 {
				sameToAsk(t, tr, m)
				tr = loads(t, "what came to be", tr.Save())
			}
		}
		sameToAsk(t, tr, m)
		if t.Failed() {
			return
		}
	}
}
