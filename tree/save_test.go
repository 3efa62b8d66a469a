package tree_test

import (
	"bytes"
	"encoding/binary"
	"math/rand"
	"slices"
	"strconv"
	"strings"
	"testing"

	"permafrost/api"
	"permafrost/tree"
)

// row is a node as it stands in a Save, be it Right or not.
type row struct {
	node  api.Node
	data  string
	names []child
}

// child is a name in a directory, and whose it is.
type child struct {
	text string
	id   int
}

// nodeBytes are a node's, by the chapter on nodes.
func nodeBytes(n api.Node) []byte {
	b := binary.BigEndian.AppendUint16(nil, uint16(n.ID))
	b = append(b, byte(n.Kind))
	b = binary.BigEndian.AppendUint16(b, uint16(n.Links))
	b = binary.BigEndian.AppendUint16(b, uint16(n.Size))
	b = binary.BigEndian.AppendUint64(b, n.Until)
	if n.Closed {
		return append(b, 1)
	}
	return append(b, 0)
}

// withLength is b behind a Short of its length.
func withLength(to []byte, b []byte) []byte {
	return append(binary.BigEndian.AppendUint16(to, uint16(len(b))), b...)
}

// image are the bytes that a Save has by the chapter.
func image(l []row) []byte {
	b := binary.BigEndian.AppendUint16(nil, uint16(len(l)))
	for _, x := range l {
		b = withLength(b, nodeBytes(x.node))
		b = withLength(b, []byte(x.data))
		b = binary.BigEndian.AppendUint16(b, uint16(len(x.names)))
		for _, n := range x.names {
			b = withLength(b, []byte(n.text))
			b = binary.BigEndian.AppendUint16(b, uint16(n.id))
		}
	}
	return b
}

// aDir and aFile are rows as they are in most trees.
func aDir(id int, names ...child) row {
	return row{node: api.Node{ID: id, Kind: dir, Links: 1, Closed: true}, names: names}
}

func aFile(id, links int, until uint64, closed bool, data string) row {
	return row{node: api.Node{ID: id, Kind: file, Links: links, Size: len(data), Until: until, Closed: closed}, data: data}
}

// groveRows is the grove, written by hand.
func groveRows() []row {
	return []row{
		aDir(0, child{"d", d}, child{"k", k}, child{"o", o}, child{"void", void}),
		aDir(d, child{"e", e}, child{"k2", k}),
		aDir(e, child{"f", f}),
		aFile(f, 1, 0, false, ""),
		aFile(k, 2, 9, true, "kept"),
		aFile(o, 1, 0, false, "open"),
		aFile(gone, 0, 0, false, "gone"),
		aDir(void),
	}
}

// loads holds that b is read, and is the Save of what is read.
func loads(t *testing.T, name string, b []byte) *tree.Tree {
	t.Helper()
	tr, why := tree.Load(b)
	if why != api.OK || tr == nil {
		t.Fatalf("P11.4: Load of %s: %d, must be 0", name, int(why))
	}
	if got := tr.Save(); !bytes.Equal(got, b) {
		t.Fatalf("P11.4: Save of what was read of %s:\n% x, must be\n% x", name, got, b)
	}
	return tr
}

// loadsNone holds that b is refused, by this number alone.
func loadsNone(t *testing.T, name string, b []byte) {
	t.Helper()
	if tr, why := tree.Load(b); why != api.ErrForm || tr != nil {
		t.Errorf("P11.4: Load of %s: %v, %d, must be none, %d", name, tr != nil, int(why), int(api.ErrForm))
	}
}

func TestSaveOfNothing(t *testing.T) {
	want := []byte{0, 1, 0, 16, 0, 0, 2, 0, 1, 0, 0, 0, 0, 0, 0, 0, 0, 0, 0, 1, 0, 0, 0, 0}
	if got := tree.New().Save(); !bytes.Equal(got, want) {
		t.Errorf("P11.4: Save of a new Tree: % x, must be % x", got, want)
	}
	tr := loads(t, "a new Tree", want)
	if n := tr.Count(); n != 1 {
		t.Errorf("P11.4: Count of what was read: %d, must be 1", n)
	}
}

func TestSaveByHand(t *testing.T) {
	tr := tree.New()
	makes(t, tr, "/b", dir)
	makes(t, tr, "/b/cd", file)
	does(t, "Append", tr.Append(2, []byte{7, 8, 9}))
	does(t, "Link", tr.Link(names("/b/cd"), names("/a")))
	does(t, "Seal", tr.Seal(2, 0x0102))
	want := []byte{
		0, 3,
		0, 16, 0, 0, 2, 0, 1, 0, 0, 0, 0, 0, 0, 0, 0, 0, 0, 1, 0, 0, 0, 2, 0, 1, 'a', 0, 2, 0, 1, 'b', 0, 1,
		0, 16, 0, 1, 2, 0, 1, 0, 0, 0, 0, 0, 0, 0, 0, 0, 0, 1, 0, 0, 0, 1, 0, 2, 'c', 'd', 0, 2,
		0, 16, 0, 2, 1, 0, 2, 0, 3, 0, 0, 0, 0, 0, 0, 1, 2, 1, 0, 3, 7, 8, 9, 0, 0,
	}
	if got := tr.Save(); !bytes.Equal(got, want) {
		t.Errorf("P11.4: Save: % x, must be % x", got, want)
	}
	loads(t, "a tree by hand", want)
}

func TestSaveOfTheGrove(t *testing.T) {
	want := image(groveRows())
	if got := grove(t).Save(); !bytes.Equal(got, want) {
		t.Errorf("P11.4: Save: % x, must be % x", got, want)
	}
	tr := loads(t, "the grove", want)
	lists(t, tr, 0, "d", "k", "o", "void")
	named(t, tr, k, "/d/k2", "/k")
	named(t, tr, gone)
	holds(t, tr, gone, "gone")
	holds(t, tr, k, "kept")
	isNode(t, tr, api.Node{ID: k, Kind: file, Links: 2, Size: 4, Until: 9, Closed: true})
	isNone(t, tr, none)
	if n := tr.Count(); n != 8 {
		t.Errorf("P11.4: Count: %d, must be 8", n)
	}
	// It goes on from there.
	if id := makes(t, tr, "/d/new", file); id != none {
		t.Errorf("P11.1: Make: ID %d, must be %d", id, none)
	}
	does(t, "Append", tr.Append(gone, []byte(" on")))
	holds(t, tr, gone, "gone on")
	does(t, "Unlink", tr.Unlink(names("/k")))
	does(t, "Rename", tr.Rename(names("/d"), names("/void/d")))
	loads(t, "what became of the grove", tr.Save())
}

// The same tree, made by another way, has the same Save.
func TestSaveOfAnotherOrder(t *testing.T) {
	one, two := tree.New(), tree.New()
	makes(t, one, "/a", dir)
	makes(t, one, "/b", file)
	makes(t, one, "/c", file)
	makes(t, two, "/x", dir)
	makes(t, two, "/c", file)
	makes(t, two, "/y", file)
	does(t, "Rename", two.Rename(names("/x"), names("/a")))
	does(t, "Rename", two.Rename(names("/c"), names("/b")))
	does(t, "Rename", two.Rename(names("/y"), names("/c")))
	if !bytes.Equal(one.Save(), two.Save()) {
		t.Error("P11.4: two trees that are the same have other Saves")
	}
}

// rooted is rows behind `/` with these names.
func rooted(names []child, l ...row) []row {
	return append([]row{aDir(0, names...)}, l...)
}

// tower is so many directories, one within the other, below `/`, and a file in
// the last one.
func tower(n int) []row {
	l := []row{}
	for i := range n {
		l = append(l, aDir(i, child{"a", i + 1}))
	}
	return append(l, aDir(n, child{"f", n + 1}), aFile(n+1, 1, 0, false, ""))
}

// many is `/` and so many files below it.
func many(n int) []row {
	root := aDir(0)
	var l []row
	for i := 1; i <= n; i++ {
		root.names = append(root.names, child{text(i), i})
		l = append(l, aFile(i, 1, 0, false, ""))
	}
	return append([]row{root}, l...)
}

// often is `/` and a file with so many names.
func often(n int) []row {
	root := aDir(0)
	for i := range n {
		root.names = append(root.names, child{text(i), 1})
	}
	return []row{root, aFile(1, n, 0, true, "")}
}

func TestLoad(t *testing.T) {
	ff := []child{{"f", 1}}
	for _, c := range []struct {
		name string
		l    []row
		want bool
	}{
		{"the grove", groveRows(), true},
		{"`/` alone", rooted(nil), true},
		{"no nodes", nil, false},
		{"no `/`, but a file", []row{aFile(1, 0, 0, false, "")}, false},
		{"`/` of ID 1", []row{aDir(1)}, false},
		{"`/` of ID 1, with a name", []row{aDir(1, child{"a", 1})}, false},
		{"`/` that is a file", []row{aFile(0, 1, 0, true, "")}, false},
		{"`/` that is an open file", []row{aFile(0, 0, 0, false, "")}, false},
		{"`/` that is a file, beside a directory within itself", []row{aFile(0, 1, 0, true, ""), aDir(1, child{"a", 1})}, false},
		{"`/` behind a node", []row{aFile(1, 1, 0, false, ""), aDir(0, ff...)}, false},
		{"two `/`", []row{aDir(0), aDir(0)}, false},
		{"IDs that rise, with holes", rooted([]child{{"a", 3}, {"b", 500}, {"c", 65535}}, aDir(3), aFile(500, 1, 0, false, ""), aFile(65535, 1, 0, true, "")), true},
		{"IDs that fall", rooted([]child{{"a", 2}, {"b", 1}}, aDir(2), aDir(1)), false},
		{"IDs that are the same", rooted([]child{{"a", 1}, {"b", 1}}, aDir(1), aDir(1)), false},
		{"IDs that are the same, of a file", rooted([]child{{"a", 1}, {"b", 1}}, aFile(1, 2, 0, true, ""), aFile(1, 2, 0, true, "")), false},

		{"a name that is not Good", rooted([]child{{"A", 1}}, aFile(1, 1, 0, false, "")), false},
		{"a name of no bytes", rooted([]child{{"", 1}}, aFile(1, 1, 0, false, "")), false},
		{"a dot", rooted([]child{{".", 1}}, aFile(1, 1, 0, false, "")), false},
		{"two dots", rooted([]child{{"..", 1}}, aDir(1)), false},
		{"a name with a stroke through it", rooted([]child{{"a/b", 1}}, aFile(1, 1, 0, false, "")), false},
		{"a name of 16 bytes", rooted([]child{{strings.Repeat("a", 16), 1}}, aFile(1, 1, 0, false, "")), true},
		{"a name of 17 bytes", rooted([]child{{strings.Repeat("a", 17), 1}}, aFile(1, 1, 0, false, "")), false},
		{"a name that is not Good, deeper", rooted([]child{{"a", 1}}, aDir(1, child{"B", 2}), aFile(2, 1, 0, false, "")), false},
		{"a last name that is not Good", rooted([]child{{"a", 1}, {"b", 1}, {"c ", 1}}, aFile(1, 3, 0, false, "")), false},
		{"names that fall", rooted([]child{{"b", 1}, {"a", 1}}, aFile(1, 2, 0, false, "")), false},
		{"names that fall in the end", rooted([]child{{"a", 1}, {"c", 1}, {"b", 1}}, aFile(1, 3, 0, false, "")), false},
		{"the same name twice", rooted([]child{{"a", 1}, {"a", 1}}, aFile(1, 2, 0, false, "")), false},
		{"the same name of two", rooted([]child{{"a", 1}, {"a", 2}}, aFile(1, 1, 0, false, ""), aFile(2, 1, 0, false, "")), false},
		{"names that rise as numbers, not as texts", rooted([]child{{"9", 1}, {"10", 1}}, aFile(1, 2, 0, false, "")), false},
		{"the same name in two directories", rooted([]child{{"a", 1}, {"b", 2}}, aDir(1, child{"b", 3}), aDir(2, child{"b", 3}), aFile(3, 2, 0, false, "")), true},
		{"names that fall, deeper", rooted([]child{{"a", 1}}, aDir(1, child{"b", 2}, child{"a", 2}), aFile(2, 2, 0, false, "")), false},
		{"a name of none", rooted([]child{{"a", 1}, {"b", 2}}, aFile(1, 1, 0, false, "")), false},
		{"a name of none, between", rooted([]child{{"a", 1}, {"b", 2}, {"c", 3}}, aFile(1, 1, 0, false, ""), aFile(3, 1, 0, false, "")), false},
		{"a name of `/`", rooted([]child{{"a", 0}}), false},
		{"a name of `/`, deeper", rooted([]child{{"a", 1}}, aDir(1, child{"a", 0})), false},
		{"a name within a file", rooted([]child{{"a", 1}, {"b", 2}}, row{node: aFile(1, 1, 0, false, "").node, names: []child{{"x", 2}}}, aFile(2, 2, 0, false, "")), false},
		{"a name within a file, of no other name", rooted([]child{{"a", 1}}, row{node: aFile(1, 1, 0, false, "").node, names: []child{{"x", 2}}}, aFile(2, 1, 0, false, "")), false},

		{"a directory of Links 0", rooted([]child{{"a", 1}}, with(aDir(1), func(n *api.Node) { n.Links = 0 })), false},
		{"a directory of Links 2", rooted([]child{{"a", 1}}, with(aDir(1), func(n *api.Node) { n.Links = 2 })), false},
		{"a directory of two names", rooted([]child{{"a", 1}, {"b", 1}}, aDir(1)), false},
		{"a directory of two names, Links 2", rooted([]child{{"a", 1}, {"b", 1}}, with(aDir(1), func(n *api.Node) { n.Links = 2 })), false},
		{"a directory of no names", rooted(nil, aDir(1)), false},
		{"a directory of no names, Links 0", rooted(nil, with(aDir(1), func(n *api.Node) { n.Links = 0 })), false},
		{"`/` of Links 0", []row{with(aDir(0), func(n *api.Node) { n.Links = 0 })}, false},
		{"`/` of Links 2", []row{with(aDir(0), func(n *api.Node) { n.Links = 2 })}, false},

		{"a closed file", rooted(ff, aFile(1, 1, 7, true, "abc")), true},
		{"an open file", rooted(ff, aFile(1, 1, 0, false, "abc")), true},
		{"an open file that has a time", rooted(ff, aFile(1, 1, 7, false, "abc")), true},
		{"a file of fewer Links than names", rooted([]child{{"f", 1}, {"g", 1}}, aFile(1, 1, 0, true, "")), false},
		{"a file of more Links than names", rooted(ff, aFile(1, 2, 0, true, "")), false},
		{"an open file of fewer Links than names", rooted(ff, aFile(1, 0, 0, false, "")), false},
		{"an open file of more Links than names", rooted(nil, aFile(1, 1, 0, false, "")), false},
		{"an open file of no names", rooted(nil, aFile(1, 0, 0, false, "abc")), true},
		{"a closed file of no names", rooted(nil, aFile(1, 0, 0, true, "abc")), false},
		{"a closed file of no names, kept", rooted(nil, aFile(1, 0, 7, true, "abc")), false},
		{"a file of as many names as may be", often(mostNames), true},
		{"a file of more names than Link gives", often(mostNames + 1), true},
		{"a file of more names than Links", append(often(mostNames)[:1], aFile(1, mostNames-1, 0, true, "")), false},

		{"a file of MaxFile", rooted(ff, aFile(1, 1, 0, true, strings.Repeat("a", mostSize))), true},
		{"a file of MaxFile and one", rooted(ff, aFile(1, 1, 0, true, strings.Repeat("a", mostSize+1))), false},
		{"a file of fewer bytes than its Size", rooted(ff, row{node: aFile(1, 1, 0, true, "abc").node, data: "ab"}), false},
		{"a file of more bytes than its Size", rooted(ff, row{node: aFile(1, 1, 0, true, "abc").node, data: "abcd"}), false},
		{"a file of no bytes, but a Size", rooted(ff, row{node: aFile(1, 1, 0, true, "abc").node}), false},
		{"a directory of bytes", rooted([]child{{"a", 1}}, row{node: aDir(1).node, data: "a"}), false},
		{"a directory of bytes and a Size", rooted([]child{{"a", 1}}, row{node: with(aDir(1), func(n *api.Node) { n.Size = 1 }).node, data: "a"}), false},
		{"`/` of bytes", []row{{node: aDir(0).node, data: "a"}}, false},
		{"a Kind that is none", rooted(ff, with(aFile(1, 1, 0, true, ""), func(n *api.Node) { n.Kind = 3 })), false},
		{"Kind 0", rooted(ff, with(aFile(1, 1, 0, true, ""), func(n *api.Node) { n.Kind = 0 })), false},
		{"a time past MaxTime", rooted(ff, aFile(1, 1, lastTime+1, true, "")), false},
		{"MaxTime", rooted(ff, aFile(1, 1, lastTime, true, "")), true},
		{"an open directory", rooted([]child{{"a", 1}}, with(aDir(1), func(n *api.Node) { n.Closed = false })), false},
		{"a directory with a time", rooted([]child{{"a", 1}}, with(aDir(1), func(n *api.Node) { n.Until = 1 })), false},

		{"a directory within itself", rooted(nil, aDir(1, child{"a", 1})), false},
		{"directories within one another", rooted(nil, aDir(1, child{"a", 2}), aDir(2, child{"a", 1})), false},
		{"directories within one another, beside others", rooted([]child{{"a", 4}}, aDir(1, child{"a", 2}), aDir(2, child{"a", 3}), aDir(3, child{"a", 1}), aDir(4)), false},
		{"a file below what is not below `/`", rooted([]child{{"f", 2}}, aDir(1, child{"a", 1}, child{"f", 2}), aFile(2, 2, 0, true, "")), false},
		{"a directory ahead of where it stands", rooted([]child{{"a", 9}}, aDir(3), aDir(9, child{"b", 3})), true},
		{"8 names, one within the other", tower(mostDepth - 1), true},
		{"9 names, one within the other", tower(mostDepth), false},
		{"10 names, one within the other", tower(mostDepth + 1), false},
		{"62 names, one within the other", tower(mostNodes - 2), false},
		{"9 directories, one within the other", chain(mostDepth + 1), false},
		{"8 directories, one within the other", chain(mostDepth), true},
		{"MaxNodes", many(mostNodes - 1), true},
		{"MaxNodes and one", many(mostNodes), false},
		{"MaxNodes and more", many(mostNodes + 100), false},
	} {
		if c.want {
			loads(t, c.name, image(c.l))
		} else {
			loadsNone(t, c.name, image(c.l))
		}
		if good(c.l) != c.want {
			t.Errorf("the tests' own reckoning of %s", c.name)
		}
	}
}

// with is a row, its node changed.
func with(x row, change func(n *api.Node)) row {
	change(&x.node)
	return x
}

// chain is so many directories, one within the other, below `/`.
func chain(n int) []row {
	l := tower(n)
	l = l[:n+1]
	l[n].names = nil
	return l
}

func TestLoadOfOtherBytes(t *testing.T) {
	b := image(groveRows())
	loadsNone(t, "nothing", nil)
	loadsNone(t, "nothing", []byte{})
	for n := range len(b) {
		// R5: what lacks stands in the room behind, and is not read.
		loadsNone(t, "the grove, cut off", b[:n])
		loadsNone(t, "the grove, cut off", bytes.Clone(b[:n]))
		loadsNone(t, "the grove's end", b[n+1:])
	}
	for _, behind := range [][]byte{{0}, {255}, {0, 0}, b, make([]byte, 1000)} {
		loadsNone(t, "the grove, and more", append(bytes.Clone(b), behind...))
	}
	for n := range 200 {
		loadsNone(t, "noughts", make([]byte, n))
		loadsNone(t, "ones", bytes.Repeat([]byte{255}, n))
		loadsNone(t, "a byte 1 and noughts", append([]byte{0, 1}, make([]byte, n)...))
	}
	// Counts that promise more than there is.
	for _, count := range []int{0, 7, 9, 64, 65, 255, 256, 65535} {
		x := bytes.Clone(b)
		binary.BigEndian.PutUint16(x, uint16(count))
		loadsNone(t, "the grove, of another count", x)
	}
	x := tree.New().Save()
	x[len(x)-1], x[len(x)-2] = 255, 255
	loadsNone(t, "`/` with names that are not there", x)
	long := nodeBytes(aDir(0).node)
	for n := range long {
		x := withLength([]byte{0, 1}, long[:n])
		loadsNone(t, "a node of fewer bytes", append(x, 0, 0, 0, 0))
	}
	loadsNone(t, "a node of more bytes", append(withLength([]byte{0, 1}, append(long, 0)), 0, 0, 0, 0))
	flag := bytes.Clone(long)
	flag[15] = 2
	loadsNone(t, "a node with a flag of 2", append(withLength([]byte{0, 1}, flag), 0, 0, 0, 0))
}

// Each byte of a Save, turned to each other one: it is refused, or it is the
// Save of the tree that it is read as.
func TestLoadOfOneByteTurned(t *testing.T) {
	b := image(groveRows())
	for at := range b {
		for x := range 256 {
			c := bytes.Clone(b)
			c[at] = byte(x)
			tr, why := tree.Load(c)
			switch {
			case why == api.OK && !bytes.Equal(tr.Save(), c):
				t.Fatalf("P11.4: byte %d turned to %d: read as another tree", at, x)
			case why != api.OK && (why != api.ErrForm || tr != nil):
				t.Fatalf("P11.4: byte %d turned to %d: %d", at, x, int(why))
			case why != api.OK && byte(x) == b[at]:
				t.Fatalf("P11.4: byte %d not turned: %d", at, int(why))
			}
		}
	}
}

func TestLoadKeepsNothing(t *testing.T) {
	b := append(image(groveRows()), 1, 2, 3)
	was := bytes.Clone(b)
	n := len(b) - 3
	tr := loads(t, "the grove", b[:n])
	if !bytes.Equal(b, was) {
		t.Error("R2: Load changed what it was handed, or the room behind it")
	}
	does(t, "Append", tr.Append(gone, []byte("!!")))
	does(t, "Append", tr.Append(f, []byte("!!")))
	makes(t, tr, "/d/a", file)
	if !bytes.Equal(b, was) {
		t.Error("R2: what is done to the tree changed what was handed in")
	}
	want := tr.Save()
	for i := range b {
		b[i] = 0xaa
	}
	if !bytes.Equal(tr.Save(), want) {
		t.Error("R2: what was read hangs on bytes that were handed in")
	}
	lists(t, tr, 0, "d", "k", "o", "void")
	holds(t, tr, gone, "gone!!")
}

func TestSaveIsNewMemory(t *testing.T) {
	tr := grove(t)
	want := image(groveRows())
	first := tr.Save()
	first = first[:cap(first)]
	for i := range first {
		first[i] = 0xaa
	}
	if !bytes.Equal(tr.Save(), want) {
		t.Error("R2: who turns an answer turns the tree")
	}
	does(t, "Append", tr.Append(o, []byte("x")))
	tr.Save()
	for _, x := range first {
		if x != 0xaa {
			t.Fatal("R2: an answer, or its spare room, is written to later")
		}
	}
}

// good is the chapter's sentence on Load, word for word.
func good(l []row) bool {
	if len(l) < 1 || len(l) > mostNodes || l[0].node.ID != 0 || l[0].node.Kind != dir {
		return false
	}
	there := map[int]row{}
	for i, x := range l {
		if i > 0 && x.node.ID <= l[i-1].node.ID {
			return false
		}
		n := x.node
		right := (n.Kind == file && n.Size <= mostSize && n.Until <= lastTime) || (n.Kind == dir && n.Size == 0 && n.Until == 0 && n.Closed)
		if !right || len(x.data) != n.Size {
			return false
		}
		there[n.ID] = x
	}
	count := map[int]int{}
	for _, x := range l {
		if x.node.Kind == file && len(x.names) > 0 {
			return false
		}
		for i, n := range x.names {
			_, ok := there[n.id]
			if !goodName(n.text) || i > 0 && n.text <= x.names[i-1].text || !ok || n.id == 0 {
				return false
			}
			count[n.id]++
		}
	}
	return goodCounts(l, count) && goodPlaces(l)
}

// goodName is what the chapter on names says of one.
func goodName(s string) bool {
	return len(s) >= 1 && len(s) <= 16 && strings.Trim(s, "abcdefghijklmnopqrstuvwxyz0123456789.-_") == "" && s != "." && s != ".."
}

// goodCounts tells if each node has as many names as it must have.
func goodCounts(l []row, count map[int]int) bool {
	for _, x := range l {
		n := x.node
		switch {
		case n.Kind == dir && n.Links != 1:
			return false
		case n.Kind == dir && n.ID != 0 && count[n.ID] != 1:
			return false
		case n.Kind == file && count[n.ID] != n.Links:
			return false
		case n.Kind == file && n.Links == 0 && n.Closed:
			return false
		}
	}
	return true
}

// goodPlaces goes from each name up to `/`, where the Tree goes down.
func goodPlaces(l []row) bool {
	within := map[int]int{}
	for _, x := range l {
		for _, n := range x.names {
			if i := slices.IndexFunc(l, func(y row) bool { return y.node.ID == n.id }); l[i].node.Kind == dir {
				within[n.id] = x.node.ID
			}
		}
	}
	for _, x := range l {
		steps := 0
		for id := x.node.ID; id != 0 && steps < 100 && len(x.names) > 0; steps++ {
			id = within[id]
		}
		if len(x.names) > 0 && steps+1 > mostDepth {
			return false
		}
	}
	for id := range within {
		steps := 0
		for at := id; at != 0; at = within[at] {
			if steps++; steps > mostDepth {
				return false
			}
		}
	}
	return true
}

// grown is the rows of a random tree.
func grown(r *rand.Rand) []row {
	l := []row{aDir(0)}
	id := 0
	for range r.Intn(12) {
		id += 1 + r.Intn(3)*r.Intn(2)
		in := r.Intn(len(l))
		for l[in].node.Kind != dir {
			in = r.Intn(len(l))
		}
		name := child{"n" + strconv.Itoa(id), id}
		switch r.Intn(4) {
		case 0:
			l = append(l, aFile(id, 0, 0, false, "xyz"[:r.Intn(4)]))
			continue
		case 1:
			l = append(l, aFile(id, 1, uint64(r.Intn(9)), true, "xyz"[:r.Intn(4)]))
		default:
			l = append(l, aDir(id))
		}
		l[in].names = append(l[in].names, name)
	}
	for i := range l {
		sortNames(l[i].names)
	}
	return l
}

func sortNames(l []child) {
	slices.SortFunc(l, func(a, b child) int { return strings.Compare(a.text, b.text) })
}

// broken is l with something else than it was; it may still be a tree.
func broken(r *rand.Rand, l []row) []row {
	i := r.Intn(len(l))
	x := &l[i]
	switch r.Intn(16) {
	case 0:
		x.node.ID = r.Intn(20)
	case 1:
		x.node.Kind = r.Intn(4)
	case 2:
		x.node.Links = r.Intn(4)
	case 3:
		x.node.Size = r.Intn(5)
	case 4:
		x.node.Until = uint64(r.Intn(2))
	case 5:
		x.node.Closed = !x.node.Closed
	case 6:
		x.data += "q"
		x.node.Size += r.Intn(2)
	case 7, 8, 9:
		x.names = append(x.names, child{"m" + strconv.Itoa(r.Intn(9)), l[r.Intn(len(l))].node.ID})
		sortNames(x.names)
		if r.Intn(2) == 0 {
			j := slices.IndexFunc(l, func(y row) bool { return y.node.ID == x.names[0].id })
			l[max(j, 0)].node.Links++
		}
	case 10:
		r.Shuffle(len(x.names), func(i, j int) { x.names[i], x.names[j] = x.names[j], x.names[i] })
	case 11:
		if len(x.names) > 0 {
			x.names[0].id = r.Intn(20)
		}
	case 12:
		if len(x.names) > 0 {
			x.names[0].text = []string{"", "..", "A", "a", "n1", "a.b"}[r.Intn(6)]
		}
	case 13:
		l = slices.Delete(l, i, i+1)
	case 14:
		j := r.Intn(len(l))
		l[i], l[j] = l[j], l[i]
	case 15:
		j := r.Intn(len(l))
		l[i].names, l[j].names = l[j].names, l[i].names
	}
	return l
}

func TestLoadOfManyTrees(t *testing.T) {
	r := rand.New(rand.NewSource(11))
	read := 0
	for i := range 60000 {
		l := grown(r)
		for range i % 4 {
			if len(l) > 0 {
				l = broken(r, l)
			}
		}
		b := image(l)
		if good(l) {
			read++
			loads(t, "a random tree", b)
		} else {
			loadsNone(t, "what is no tree", b)
		}
		if t.Failed() {
			t.Fatalf("%+v", l)
		}
	}
	if read < 10000 || read > 50000 {
		t.Errorf("of the random trees %d are trees: too few, or too many", read)
	}
}
