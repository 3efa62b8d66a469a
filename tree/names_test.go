package tree_test

import (
	"math"
	"slices"
	"strconv"
	"strings"
	"testing"

	"permafrost/api"
	"permafrost/tree"
)

func TestLink(t *testing.T) {
	tr := grove(t)
	does(t, "Link", tr.Link(names("/d/e/f"), names("/void/l")))
	looks(t, tr, "/void/l", f)
	looks(t, tr, "/d/e/f", f)
	isNode(t, tr, api.Node{ID: f, Kind: file, Links: 2})
	named(t, tr, f, "/d/e/f", "/void/l")
	lists(t, tr, void, "l")
	// Beside the other name, and of a name that is a link itself.
	does(t, "Link", tr.Link(names("/void/l"), names("/void/a")))
	isNode(t, tr, api.Node{ID: f, Kind: file, Links: 3})
	lists(t, tr, void, "a", "l")
	// Of a closed file: its bytes and its time are what they were.
	does(t, "Link", tr.Link(names("/k"), names("/l")))
	isNode(t, tr, api.Node{ID: k, Kind: file, Links: 3, Size: 4, Until: 9, Closed: true})
	holds(t, tr, k, "kept")
	if n := tr.Count(); n != 8 {
		t.Errorf("P11.4: Count: %d, must be 8: a name more is no node more", n)
	}
}

func TestLinkRefused(t *testing.T) {
	inGrove(t, "P11.2", []call{
		{"Link(/none, ..)", api.ErrNone, link("/none", "/l")},
		{"Link(/k/x, ..)", api.ErrNotDir, link("/k/x", "/l")},
		{"Link(/none, /none/l)", api.ErrNone, link("/none", "/k/l")},
		{"Link(/k/x, /none/l)", api.ErrNotDir, link("/k/x", "/none/l")},
		{"Link(/d, ..)", api.ErrDir, link("/d", "/l")},
		{"Link(/void, ..)", api.ErrDir, link("/void", "/l")},
		{"Link(/, ..)", api.ErrDir, link("/", "/l")},
		{"Link(/d, /)", api.ErrDir, link("/d", "/")},
		{"Link(/d, /none/l)", api.ErrDir, link("/d", "/none/l")},
		{"Link(/d, /k/l)", api.ErrDir, link("/d", "/k/l")},
		{"Link(/d, /k)", api.ErrDir, link("/d", "/k")},
		{"Link(/k, /)", api.ErrArg, link("/k", "/")},
		{"Link(/k, /none/l)", api.ErrNone, link("/k", "/none/l")},
		{"Link(/k, /o/l)", api.ErrNotDir, link("/k", "/o/l")},
		{"Link(/k, /o/l/x)", api.ErrNotDir, link("/k", "/o/l/x")},
		{"Link(/k, /k/l)", api.ErrNotDir, link("/k", "/k/l")},
		{"Link(/k, /o)", api.ErrThere, link("/k", "/o")},
		{"Link(/k, /d)", api.ErrThere, link("/k", "/d")},
		{"Link(/k, /k)", api.ErrThere, link("/k", "/k")},
		{"Link(/k, /d/k2)", api.ErrThere, link("/k", "/d/k2")},
		{"Link(/k, /gone)", api.OK, link("/k", "/gone")},
	})
}

// text is a name of its own for each i.
func text(i int) string {
	return string([]byte{byte('a' + i/26), byte('a' + i%26)})
}

// linked is a tree with a file of so many names, ID 1, /aa and on.
func linked(t *testing.T, n int) *tree.Tree {
	t.Helper()
	tr := tree.New()
	makes(t, tr, "/aa", file)
	for i := 1; i < n; i++ {
		does(t, "Link", tr.Link(names("/aa"), []string{text(i)}))
	}
	return tr
}

func TestMostNamesOfOneNode(t *testing.T) {
	tr := linked(t, mostNames)
	isNode(t, tr, api.Node{ID: 1, Kind: file, Links: mostNames})
	if n := len(tr.Names(1)); n != mostNames {
		t.Errorf("P11.4: %d Names, must be %d", n, mostNames)
	}
	makes(t, tr, "/x", dir)
	makes(t, tr, "/y", file)
	was := tr.Save()
	back, why := tree.Load(was)
	if why != api.OK || string(back.Save()) != string(was) {
		t.Errorf("P11.4: Load of a file with %d names: %d", mostNames, int(why))
	}
	answers(t, "P11.2", func() *tree.Tree { tr, _ := tree.Load(was); return tr }, []call{
		{"one more", api.ErrMany, link("/aa", "/z")},
		{"one more, of its last name", api.ErrMany, link("/"+text(mostNames-1), "/x/z")},
		{"one that is there", api.ErrThere, link("/aa", "/x")},
		{"one that is its own", api.ErrThere, link("/aa", "/ab")},
		{"one below nothing", api.ErrNone, link("/aa", "/none/z")},
		{"no names", api.ErrArg, link("/aa", "/")},
		{"one of another file", api.OK, link("/y", "/z")},
		{"another instead of one", api.OK, rename("/aa", "/z")},
	})
	more := loads(t, "a file of more names", image(often(mostNames+1)))
	if why := more.Link(names("/aa"), names("/z")); why != api.ErrMany {
		t.Errorf("P11.2: Link beside %d names: %d, must be %d", mostNames+1, int(why), int(api.ErrMany))
	}
	does(t, "Unlink", tr.Unlink(names("/ab")))
	does(t, "Link", tr.Link(names("/aa"), names("/x/z")))
	if why := tr.Link(names("/aa"), names("/x/zz")); why != api.ErrMany {
		t.Errorf("P11.2: Link: %d, must be %d", int(why), int(api.ErrMany))
	}
}

func TestUnlink(t *testing.T) {
	tr := grove(t)
	does(t, "Unlink", tr.Unlink(names("/k")))
	looksNone(t, tr, "/k", api.ErrNone)
	looks(t, tr, "/d/k2", k)
	isNode(t, tr, api.Node{ID: k, Kind: file, Links: 1, Size: 4, Until: 9, Closed: true})
	holds(t, tr, k, "kept")
	does(t, "Unlink", tr.Unlink(names("/d/k2")))
	isNone(t, tr, k)
	lists(t, tr, d, "e")
	lists(t, tr, 0, "d", "o", "void")
	if n := tr.Count(); n != 7 {
		t.Errorf("P11.4: Count: %d, must be 7", n)
	}
	if _, why := tr.Read(k, 0, 1); why != api.ErrNone {
		t.Errorf("P11.2: Read of what is gone: %d, must be %d", int(why), int(api.ErrNone))
	}
}

func TestUnlinkOfAnOpenFile(t *testing.T) {
	tr := grove(t)
	does(t, "Link", tr.Link(names("/o"), names("/d/o")))
	does(t, "Unlink", tr.Unlink(names("/o")))
	isNode(t, tr, api.Node{ID: o, Kind: file, Links: 1, Size: 4})
	named(t, tr, o, "/d/o")
	does(t, "Unlink", tr.Unlink(names("/d/o")))
	isNode(t, tr, api.Node{ID: o, Kind: file, Links: 0, Size: 4})
	named(t, tr, o)
	lists(t, tr, d, "e", "k2")
	if n := tr.Count(); n != 8 {
		t.Errorf("P11.4: Count: %d, must be 8", n)
	}
	// It goes on without names: it is written and read.
	does(t, "Append", tr.Append(o, []byte("er")))
	holds(t, tr, o, "opener")
	// Its name is free, and another node's then.
	id := makes(t, tr, "/o", file)
	if id == o {
		t.Error("P11.1: the ID of a file without names is another's")
	}
	looks(t, tr, "/o", id)
	holds(t, tr, o, "opener")
	does(t, "Drop", tr.Drop(o))
	isNone(t, tr, o)
	looks(t, tr, "/o", id)
}

func TestUnlinkRefused(t *testing.T) {
	inGrove(t, "P11.2", []call{
		{"Unlink(/none)", api.ErrNone, unlink("/none")},
		{"Unlink(/none/x)", api.ErrNone, unlink("/none/x")},
		{"Unlink(/gone)", api.ErrNone, unlink("/gone")},
		{"Unlink(/k/x)", api.ErrNotDir, unlink("/k/x")},
		{"Unlink(/d)", api.ErrDir, unlink("/d")},
		{"Unlink(/void)", api.ErrDir, unlink("/void")},
		{"Unlink(/)", api.ErrDir, unlink("/")},
		{"Unlink(/d/e/f)", api.OK, unlink("/d/e/f")},
	})
}

func TestRmdir(t *testing.T) {
	tr := grove(t)
	does(t, "Rmdir", tr.Rmdir(names("/void")))
	isNone(t, tr, void)
	looksNone(t, tr, "/void", api.ErrNone)
	lists(t, tr, 0, "d", "k", "o")
	if n := tr.Count(); n != 7 {
		t.Errorf("P11.4: Count: %d, must be 7", n)
	}
	does(t, "Unlink", tr.Unlink(names("/d/e/f")))
	does(t, "Rmdir", tr.Rmdir(names("/d/e")))
	lists(t, tr, d, "k2")
	isNode(t, tr, api.Node{ID: f, Kind: file})
}

func TestRmdirRefused(t *testing.T) {
	inGrove(t, "P11.2", []call{
		{"Rmdir(/none)", api.ErrNone, rmdir("/none")},
		{"Rmdir(/none/x)", api.ErrNone, rmdir("/none/x")},
		{"Rmdir(/k/x)", api.ErrNotDir, rmdir("/k/x")},
		{"Rmdir(/k)", api.ErrNotDir, rmdir("/k")},
		{"Rmdir(/o)", api.ErrNotDir, rmdir("/o")},
		{"Rmdir(/)", api.ErrArg, rmdir("/")},
		{"Rmdir(/d)", api.ErrFull, rmdir("/d")},
		{"Rmdir(/d/e)", api.ErrFull, rmdir("/d/e")},
		{"Rmdir(/void)", api.OK, rmdir("/void")},
	})
	// Of an empty `/`, too.
	answers(t, "P11.2", tree.New, []call{{"Rmdir(/) of nothing else", api.ErrArg, rmdir("/")}})
}

func TestRename(t *testing.T) {
	tr := grove(t)
	does(t, "Rename", tr.Rename(names("/k"), names("/void/n")))
	looksNone(t, tr, "/k", api.ErrNone)
	looks(t, tr, "/void/n", k)
	looks(t, tr, "/d/k2", k)
	isNode(t, tr, api.Node{ID: k, Kind: file, Links: 2, Size: 4, Until: 9, Closed: true})
	holds(t, tr, k, "kept")
	named(t, tr, k, "/d/k2", "/void/n")
	// A directory goes with all that is below it.
	does(t, "Rename", tr.Rename(names("/d/e"), names("/void/a")))
	looks(t, tr, "/void/a/f", f)
	looksNone(t, tr, "/d/e/f", api.ErrNone)
	isNode(t, tr, api.Node{ID: e, Kind: dir, Links: 1, Closed: true})
	lists(t, tr, d, "k2")
	lists(t, tr, void, "a", "n")
	// Within one directory; to a name that is there no more.
	does(t, "Rename", tr.Rename(names("/d"), names("/k")))
	lists(t, tr, 0, "k", "o", "void")
	looks(t, tr, "/k/k2", k)
	does(t, "Rename", tr.Rename(names("/o"), names("/oo")))
	isNode(t, tr, api.Node{ID: o, Kind: file, Links: 1, Size: 4})
	if n := tr.Count(); n != 8 {
		t.Errorf("P11.4: Count: %d, must be 8", n)
	}
}

// Both names are there then, as they were.
func TestRenameOfTwoNamesOfOneNode(t *testing.T) {
	for _, c := range [][2]string{{"/k", "/d/k2"}, {"/d/k2", "/k"}, {"/k", "/k"}, {"/d/k2", "/d/k2"}, {"/o", "/o"}, {"/d/e/f", "/d/e/f"}} {
		tr := grove(t)
		was := tr.Save()
		does(t, "Rename("+c[0]+", "+c[1]+")", tr.Rename(names(c[0]), names(c[1])))
		if string(tr.Save()) != string(was) {
			t.Errorf("P11.2: Rename(%s, %s), names of one node, changed something", c[0], c[1])
		}
	}
}

func TestRenameRefused(t *testing.T) {
	inGrove(t, "P11.2", []call{
		{"Rename(/none, ..)", api.ErrNone, rename("/none", "/n")},
		{"Rename(/none, /)", api.ErrNone, rename("/none", "/")},
		{"Rename(/none, /k/x)", api.ErrNone, rename("/none", "/k/x")},
		{"Rename(/k/x, ..)", api.ErrNotDir, rename("/k/x", "/n")},
		{"Rename(/k/x, /none/x)", api.ErrNotDir, rename("/k/x", "/none/x")},
		{"Rename(/, ..)", api.ErrArg, rename("/", "/n")},
		{"Rename(/, /none/x)", api.ErrArg, rename("/", "/none/x")},
		{"Rename(/, /k/x)", api.ErrArg, rename("/", "/k/x")},
		{"Rename(/, /k)", api.ErrArg, rename("/", "/k")},
		{"Rename(/, /)", api.ErrArg, rename("/", "/")},
		{"Rename(/k, /)", api.ErrArg, rename("/k", "/")},
		{"Rename(/d, /)", api.ErrArg, rename("/d", "/")},
		{"Rename(/k, /none/x)", api.ErrNone, rename("/k", "/none/x")},
		{"Rename(/k, /o/x)", api.ErrNotDir, rename("/k", "/o/x")},
		{"Rename(/k, /o/x/y)", api.ErrNotDir, rename("/k", "/o/x/y")},
		{"Rename(/k, /k/x)", api.ErrNotDir, rename("/k", "/k/x")},
		{"Rename(/d, /d/x)", api.ErrArg, rename("/d", "/d/x")},
		{"Rename(/d, /d/e)", api.ErrArg, rename("/d", "/d/e")},
		{"Rename(/d, /d/e/x)", api.ErrArg, rename("/d", "/d/e/x")},
		{"Rename(/d, /d/e/f)", api.ErrArg, rename("/d", "/d/e/f")},
		{"Rename(/d/e, /d/e/x)", api.ErrArg, rename("/d/e", "/d/e/x")},
		{"Rename(/d, /d)", api.ErrArg, rename("/d", "/d")},
		{"Rename(/void, /void)", api.ErrArg, rename("/void", "/void")},
		{"Rename(/d, /d/none/x)", api.ErrNone, rename("/d", "/d/none/x")},
		{"Rename(/d, /d/k2/x)", api.ErrNotDir, rename("/d", "/d/k2/x")},
		{"Rename(/k, /o)", api.ErrThere, rename("/k", "/o")},
		{"Rename(/k, /d)", api.ErrThere, rename("/k", "/d")},
		{"Rename(/d, /k)", api.ErrThere, rename("/d", "/k")},
		{"Rename(/d, /void)", api.ErrThere, rename("/d", "/void")},
		{"Rename(/void, /d)", api.ErrThere, rename("/void", "/d")},
		{"Rename(/d/e, /d)", api.ErrThere, rename("/d/e", "/d")},
		{"Rename(/d, /dd)", api.OK, rename("/d", "/dd")},
		{"Rename(/d/e, /e)", api.OK, rename("/d/e", "/e")},
	})
}

// towers is a tree with /a .. of so many directories, and /b .. of eight.
func towers(t *testing.T, n int) *tree.Tree {
	t.Helper()
	tr := tree.New()
	for i := 1; i <= n; i++ {
		makes(t, tr, strings.Repeat("/a", i), dir)
	}
	for i := 1; i <= mostDepth; i++ {
		makes(t, tr, strings.Repeat("/b", i), dir)
	}
	return tr
}

// Of n names, one within the other, of which the first comes to the place m.
func TestRenameTooDeep(t *testing.T) {
	for n := 1; n <= mostDepth; n++ {
		for m := 1; m <= mostDepth; m++ {
			to := strings.Repeat("/b", m-1) + "/c"
			why := api.OK
			if n+m-1 > mostDepth {
				why = api.ErrLong
			}
			answers(t, "P11.2", func() *tree.Tree { return towers(t, n) }, []call{
				{"Rename of " + strconv.Itoa(n) + " names to " + to, why, rename("/a", to)},
			})
		}
	}
	answers(t, "P11.2", func() *tree.Tree { return towers(t, 3) }, []call{
		{"a name that is there, and too deep", api.ErrThere, rename("/a", strings.Repeat("/b", 8))},
		{"a file's place, too deep", api.ErrLong, rename("/a", strings.Repeat("/b", 7)+"/c")},
	})
}

// The highest of all that is below counts: not the first one, nor the last.
func TestRenameOfManyHeights(t *testing.T) {
	wide := func() *tree.Tree {
		tr := towers(t, 1)
		for _, s := range []string{"/a/a", "/a/m", "/a/m/a", "/a/m/m", "/a/z"} {
			makes(t, tr, s, dir)
		}
		makes(t, tr, "/a/m/m/f", file)
		return tr
	}
	answers(t, "P11.2", wide, []call{
		{"to the fifth place", api.OK, rename("/a", "/b/b/b/b/c")},
		{"to the sixth place", api.ErrLong, rename("/a", "/b/b/b/b/b/c")},
		{"a part of it, to the seventh place", api.ErrLong, rename("/a/m", "/b/b/b/b/b/b/c")},
		{"a part of it, to the sixth place", api.OK, rename("/a/m", "/b/b/b/b/b/c")},
		{"a file, to the eighth place", api.OK, rename("/a/m/m/f", strings.Repeat("/b", 7)+"/c")},
	})
	// A file without names lies nowhere, and so not too deep.
	tr := wide()
	does(t, "Unlink", tr.Unlink(names("/a/m/m/f")))
	does(t, "Rename", tr.Rename(names("/a"), names("/b/b/b/b/b/c")))
}

func TestNames(t *testing.T) {
	tr := grove(t)
	named(t, tr, 0, "/")
	named(t, tr, d, "/d")
	named(t, tr, e, "/d/e")
	named(t, tr, f, "/d/e/f")
	named(t, tr, k, "/d/k2", "/k")
	named(t, tr, gone)
	for _, id := range []int{none, 9, 64, 65536, -1, math.MaxInt, math.MinInt} {
		named(t, tr, id)
	}
	if l := tr.Names(0); len(l) != 1 || len(l[0]) != 0 {
		t.Errorf("P11.4: Names(0): %q, must be one path, of no names", l)
	}
}

// By the paths' texts, in which a stroke and a dot are ahead of the `/`.
func TestNamesRise(t *testing.T) {
	tr := tree.New()
	makes(t, tr, "/a", dir)
	makes(t, tr, "/a/d", dir)
	id := makes(t, tr, "/a/b", file)
	for _, s := range []string{"/b", "/a-b", "/a.b", "/a0", "/a_", "/a/a", "/a/d/x", "/a/d-x", "/a/d.x", "/a/d0", "/aa", "/0", "/-", "/a/zz", "/z"} {
		does(t, "Link", tr.Link(names("/a/b"), names(s)))
	}
	named(t, tr, id, "/-", "/0", "/a-b", "/a.b", "/a/a", "/a/b", "/a/d-x", "/a/d.x", "/a/d/x", "/a/d0", "/a/zz", "/a0", "/a_", "/aa", "/b", "/z")
}

func TestNamesAreNewMemory(t *testing.T) {
	tr := tree.New()
	makes(t, tr, "/a", dir)
	makes(t, tr, "/a/b", dir)
	makes(t, tr, "/a/b/c", dir)
	id := makes(t, tr, "/a/b/c/f", file)
	want := []string{"/a/b/c/f"}
	for i := range 12 {
		s := "/a/b/c/f" + text(i)
		does(t, "Link", tr.Link(names("/a/b/c/f"), names(s)))
		want = append(want, s)
	}
	l := tr.Names(id)
	for i := range l {
		room := l[i][:cap(l[i])]
		for j := range room {
			room[j] = "zzz"
		}
		for _, other := range l[i+1:] {
			if slices.Contains(other[:cap(other)], "zzz") {
				t.Fatalf("R2: two lists of one answer share memory: %q", other)
			}
		}
	}
	named(t, tr, id, want...)
	kept := tr.Names(id)
	does(t, "Rename", tr.Rename(names("/a"), names("/q")))
	tr.Names(id)
	for i, p := range kept {
		if "/"+strings.Join(p, "/") != want[i] {
			t.Errorf("R2: an answer is written to later: %q", p)
		}
	}
}
