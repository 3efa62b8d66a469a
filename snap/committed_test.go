package snap_test

import (
	"bytes"
	"encoding/binary"
	"math/rand"
	"slices"
	"strconv"
	"strings"
	"testing"

	"permafrost/api"
	"permafrost/path"
	"permafrost/snap"
	"permafrost/tree"
)

// commits holds what Committed of tr is, and that tr stays as it is.
func commits(t *testing.T, tr, want *tree.Tree) *tree.Tree {
	t.Helper()
	was := tr.Save()
	c := snap.Committed(tr)
	isTree(t, "P13.1: Committed", c, want)
	if !bytes.Equal(tr.Save(), was) {
		t.Error("R2: Committed has changed the tree")
	}
	isTree(t, "P13.1: Committed of what is committed", snap.Committed(c), want)
	return c
}

func TestCommittedOfNil(t *testing.T) {
	if snap.Committed(nil) != nil {
		t.Error("P13.1: Committed(nil): a tree, must be nil")
	}
}

func TestCommittedOfWhatIsClosed(t *testing.T) {
	commits(t, tree.New(), tree.New())
	tr := some(t, 5)
	makes(t, tr, "/void", dir)
	makes(t, tr, "/void/void", dir)
	seals(t, tr, "/b", 0)
	seals(t, tr, "/c", lastTime)
	does(t, "Link", tr.Link(names("/b"), names("/void/b")))
	c := commits(t, tr, tr)
	if n := c.Count(); n != 7 {
		t.Errorf("P13.1: Committed has %d nodes, must have 7", n)
	}
}

func TestCommittedWithoutOpenFiles(t *testing.T) {
	tr := tree.New()
	opens(t, tr, "/a")
	makes(t, tr, "/empty", file)
	commits(t, tr, tree.New())
	makes(t, tr, "/d", dir)
	opens(t, tr, "/d/o")
	c := snap.Committed(tr)
	if l, _ := c.List(0); !slices.Equal(l, []string{"d"}) {
		t.Errorf("P13.1: Committed: `/` has %q, must have d", l)
	}
	// A directory stays, also if nothing is left in it.
	if l, why := c.List(3); len(l) > 0 || why != api.OK {
		t.Errorf("P13.1: Committed: the directory has %q, %d, must have none, 0", l, int(why))
	}
	if n := c.Count(); n != 2 {
		t.Errorf("P13.1: Committed has %d nodes, must have 2", n)
	}
}

func TestCommittedKeepsIDs(t *testing.T) {
	tr := tree.New()
	opens(t, tr, "/a")
	b := seals(t, tr, "/b", 5)
	opens(t, tr, "/c")
	d := makes(t, tr, "/d", dir)
	opens(t, tr, "/d/e")
	f := seals(t, tr, "/d/f", 0)
	c := snap.Committed(tr)
	for _, id := range []int{0, b, d, f} {
		want, _ := tr.Node(id)
		if got, ok := c.Node(id); !ok || got != want {
			t.Errorf("P13.1: Committed: node %d: %+v, must be %+v", id, got, want)
		}
	}
	for id := range 12 {
		_, ok := c.Node(id)
		if want := slices.Contains([]int{0, b, d, f}, id); ok != want {
			t.Errorf("P13.1: Committed: node %d is there: %v, must be %v", id, ok, want)
		}
	}
	// The IDs of what is left out are free in it, and are not in the other.
	if id := makes(t, c, "/new", file); id != 1 {
		t.Errorf("P11.1: Make: ID %d, must be 1", id)
	}
	if id := makes(t, tr, "/new", file); id != 7 {
		t.Errorf("P11.1: Make: ID %d, must be 7", id)
	}
}

func TestCommittedWithoutAllNamesOfAFile(t *testing.T) {
	tr := some(t, 5)
	makes(t, tr, "/d/e", dir)
	opens(t, tr, "/o")
	for _, to := range []string{"/d/o", "/d/e/o", "/p", "/d/a-b"} {
		does(t, "Link", tr.Link(names("/o"), names(to)))
	}
	want := some(t, 5)
	makes(t, want, "/d/e", dir)
	c := commits(t, tr, want)
	if id, why := c.Look(names("/d/o")); id != 0 || why != api.ErrNone {
		t.Errorf("P13.1: Committed: Look: %d, %d, must be 0, %d", id, int(why), int(api.ErrNone))
	}
}

func TestCommittedWithoutNamelessFiles(t *testing.T) {
	tr := some(t, 5)
	gone := opens(t, tr, "/gone")
	does(t, "Unlink", tr.Unlink(names("/gone")))
	c := commits(t, tr, some(t, 5))
	if n, ok := c.Node(gone); ok {
		t.Errorf("P13.1: Committed has the nameless file: %+v", n)
	}
	if _, ok := tr.Node(gone); !ok {
		t.Error("R2: the tree has lost its nameless file")
	}
}

func TestCommittedOfAFullTree(t *testing.T) {
	tr := tree.New()
	var left []int
	for i := range api.MaxNodes - 1 {
		s := "/f" + strconv.Itoa(i)
		if i%3 == 1 {
			left = append(left, seals(t, tr, s, uint64(i)))
		} else {
			opens(t, tr, s)
		}
	}
	c := snap.Committed(tr)
	if n := c.Count(); n != len(left)+1 {
		t.Errorf("P13.1: Committed has %d nodes, must have %d", n, len(left)+1)
	}
	for _, id := range left {
		want, _ := tr.Node(id)
		if got, _ := c.Node(id); got != want {
			t.Errorf("P13.1: Committed: node %d: %+v, must be %+v", id, got, want)
		}
	}
}

func TestCommittedIsByItself(t *testing.T) {
	tr := some(t, 5)
	opens(t, tr, "/o")
	one, two := snap.Committed(tr), snap.Committed(tr)
	was := tr.Save()
	does(t, "Keep", one.Keep(2, 99))
	does(t, "Rename", one.Rename(names("/d"), names("/e")))
	opens(t, one, "/o")
	if !bytes.Equal(tr.Save(), was) {
		t.Error("R2: what is done to Committed's tree is seen in the other")
	}
	isTree(t, "R2: what is done to one is seen in another", two, some(t, 5))
	does(t, "Unlink", tr.Unlink(names("/d/a")))
	does(t, "Append", tr.Append(3, []byte("more")))
	isTree(t, "R2: what is done to the tree is seen in Committed's", two, some(t, 5))
	// Committed of what is committed is a tree of its own, too.
	three := snap.Committed(two)
	makes(t, three, "/x", dir)
	isTree(t, "R2: what is done to Committed's tree is seen in the other", two, some(t, 5))
}

// nodeBytes are a node's, by the chapter on nodes.
func nodeBytes(n api.Node) []byte {
	b := binary.BigEndian.AppendUint16(nil, uint16(n.ID))
	b = append(b, byte(n.Kind))
	b = binary.BigEndian.AppendUint16(b, uint16(n.Links))
	b = binary.BigEndian.AppendUint16(b, uint16(n.Size))
	b = binary.BigEndian.AppendUint64(b, n.Until)
	if n.Closed {
		return append(b, 1)
	}
	return append(b, 0)
}

// withLength is b behind a Short of its length.
func withLength(to, b []byte) []byte {
	return append(binary.BigEndian.AppendUint16(to, uint16(len(b))), b...)
}

// told is the Save of tr's Committed, made by asking tr alone: for this no tree
// is read, and nothing dropped.
func told(tr *tree.Tree) []byte {
	count, b := 0, []byte(nil)
	for id, left := 0, tr.Count(); left > 0; id++ {
		n, ok := tr.Node(id)
		if ok {
			left--
		}
		if !n.Closed {
			continue
		}
		count++
		b = withLength(b, nodeBytes(n))
		data, _ := tr.Read(id, 0, n.Size)
		b = withLength(b, data)
		names, at := 0, []byte(nil)
		if n.Kind == dir {
			names, at = toldNames(tr, id)
		}
		b = append(binary.BigEndian.AppendUint16(b, uint16(names)), at...)
	}
	return append(binary.BigEndian.AppendUint16(nil, uint16(count)), b...)
}

// toldNames are the names in a directory that are not of open files.
func toldNames(tr *tree.Tree, id int) (int, []byte) {
	count, b := 0, []byte(nil)
	l, _ := tr.List(id)
	at := tr.Names(id)[0]
	for _, text := range l {
		child, _ := tr.Look(append(slices.Clone(at), text))
		if n, _ := tr.Node(child); !n.Closed {
			continue
		}
		count++
		b = withLength(b, []byte(text))
		b = binary.BigEndian.AppendUint16(b, uint16(child))
	}
	return count, b
}

// image are the bytes of a tree in which each of these files has as many names
// in `/` as its Links.
func image(files ...api.Node) []byte {
	type child struct {
		text string
		id   int
	}
	var all []child
	for i, n := range files {
		for k := range n.Links {
			all = append(all, child{"f" + strconv.Itoa(i) + "-" + strconv.Itoa(k), n.ID})
		}
	}
	slices.SortFunc(all, func(a, b child) int { return strings.Compare(a.text, b.text) })
	b := binary.BigEndian.AppendUint16(nil, uint16(len(files)+1))
	b = withLength(b, nodeBytes(api.Node{Kind: dir, Links: 1, Closed: true}))
	b = withLength(b, nil)
	b = binary.BigEndian.AppendUint16(b, uint16(len(all)))
	for _, c := range all {
		b = withLength(b, []byte(c.text))
		b = binary.BigEndian.AppendUint16(b, uint16(c.id))
	}
	for _, n := range files {
		b = withLength(b, nodeBytes(n))
		b = withLength(b, make([]byte, n.Size))
		b = append(b, 0, 0)
	}
	return b
}

// reads reads a tree.
func reads(t *testing.T, b []byte) *tree.Tree {
	t.Helper()
	tr, why := tree.Load(b)
	does(t, "tree.Load", why)
	return tr
}

// A tree that was read may have IDs that no Make gives, open files with a time,
// and files of very many names.
func TestCommittedOfTreesThatWereRead(t *testing.T) {
	for i, l := range [][]api.Node{
		{{ID: 65535, Kind: file, Links: 1}},
		{{ID: 65535, Kind: file, Links: 1, Closed: true}},
		{{ID: 65535, Kind: file}},
		{{ID: 63, Kind: file, Links: 1, Closed: true}, {ID: 64, Kind: file, Links: 2}, {ID: 65, Kind: file, Links: 1, Until: 5, Closed: true}},
		{{ID: 300, Kind: file, Links: 1, Size: 4096, Until: lastTime, Closed: true}, {ID: 4097, Kind: file}, {ID: 65534, Kind: file, Links: 3, Size: 4096}},
		{{ID: 2, Kind: file, Links: 1, Until: lastTime}, {ID: 4, Kind: file, Links: 1, Until: 1, Closed: true}, {ID: 6, Kind: file, Until: lastTime}},
		{{ID: 1, Kind: file, Links: 3000}, {ID: 2, Kind: file, Links: 2000, Until: 5, Closed: true}},
	} {
		tr := reads(t, image(l...))
		commits(t, tr, reads(t, told(tr)))
		s := snap.New()
		takes(t, s, tr, 1)
		isSnap(t, s, 1, reads(t, told(tr)))
		loads(t, "case "+strconv.Itoa(i), s.Save())
	}
}

// someStep does something to a tree; most of it is refused at times, and that is
// as good.
func someStep(r *rand.Rand, tr *tree.Tree) {
	spot := func() []string { return names([]string{"/", "/d/", "/d/e/"}[r.Intn(3)] + strconv.Itoa(r.Intn(9))) }
	switch r.Intn(12) {
	case 0, 1, 2:
		tr.Make(spot(), file)
	case 3:
		tr.Make(names([]string{"/d", "/d/e", "/g"}[r.Intn(3)]), dir)
	case 4, 5:
		tr.Append(r.Intn(20), []byte("some bytes"[:r.Intn(11)]))
	case 6, 7:
		tr.Seal(r.Intn(20), uint64(r.Intn(12)))
	case 8:
		tr.Keep(r.Intn(20), uint64(r.Intn(12)))
	case 9:
		tr.Link(spot(), spot())
	case 10:
		tr.Unlink(spot())
	case 11:
		tr.Rename(spot(), spot())
	}
}

func TestCommittedOfSomeTrees(t *testing.T) {
	r := rand.New(rand.NewSource(13))
	open := 0
	for range 100 {
		tr := tree.New()
		for range 40 {
			someStep(r, tr)
			someStep(r, tr)
			c := commits(t, tr, reads(t, told(tr)))
			open += tr.Count() - c.Count()
			for id := range 30 {
				want := pathsOf(tr, id)
				if n, _ := tr.Node(id); !n.Closed {
					want = ""
				}
				if got := pathsOf(c, id); got != want {
					t.Fatalf("P13.1: Committed: node %d has the names %s, must have %s", id, got, want)
				}
			}
		}
	}
	if open < 5000 {
		t.Errorf("of the random trees' files %d are open: too few", open)
	}
}

// pathsOf are all paths of a node, as one text.
func pathsOf(tr *tree.Tree, id int) string {
	s := ""
	for _, p := range tr.Names(id) {
		s += path.Join(p) + " "
	}
	return s
}

// overfull is a tree whose `/` has more names than a Save can tell: no bytes are
// such a tree's.
func overfull(t *testing.T) *tree.Tree {
	t.Helper()
	tr := reads(t, image(api.Node{ID: 5, Kind: file, Links: 65535, Closed: true}))
	seals(t, tr, "/one-more", 0)
	return tr
}

// R1: there is no promise what these answer, but that they do.
func TestNoPanicOfATreeThatNoBytesTell(t *testing.T) {
	tr := overfull(t)
	s := snap.New()
	snap.Committed(tr)
	if id, why := s.Take(tr); id != 0 || why == api.OK {
		t.Errorf("Take: %d, %d, of a tree that can't be saved", id, int(why))
	}
	isAll(t, s)
	takes(t, s, tree.New(), 1)
	isHash(t, s, 1, hashed(tree.New().Save()))
}
