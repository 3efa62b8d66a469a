package tree_test

import (
	"bytes"
	"math"
	"slices"
	"strings"
	"testing"

	"permafrost/api"
	"permafrost/tree"
)

// What the table of limits and the chapter have.
const (
	mostNodes = 64
	mostNames = 64 // of one node
	mostDepth = 8
	mostSize  = 4096
	lastTime  = 1 << 40
	file      = 1
	dir       = 2
)

// names are those of a path that a test writes as text.
func names(s string) []string {
	if s == "/" {
		return nil
	}
	return strings.Split(s[1:], "/")
}

// deep is a path of so many names.
func deep(n int) []string { return slices.Repeat([]string{"a"}, n) }

// roomy is l, with room behind it that is not empty.
func roomy(l []string) []string {
	return append(slices.Clone(l), "x1", "x2", "x3")[:len(l)]
}

// call is one that answers a number, with whatever it is given.
type call struct {
	name string
	why  api.Errno
	do   func(t *tree.Tree) api.Errno
}

// answers holds that a tree, each time a fresh one, answers each call's number,
// and that one that is refused has changed nothing.
func answers(t *testing.T, promise string, fresh func() *tree.Tree, calls []call) {
	t.Helper()
	for _, c := range calls {
		tr := fresh()
		was := tr.Save()
		if why := c.do(tr); why != c.why {
			t.Errorf("%s: %s: %d, must be %d", promise, c.name, int(why), int(c.why))
		} else if why != api.OK && !bytes.Equal(tr.Save(), was) {
			t.Errorf("R3: %s is refused, and has changed the tree", c.name)
		}
	}
}

// makes lays a node at s that must come to be.
func makes(t *testing.T, tr *tree.Tree, s string, kind int) int {
	t.Helper()
	id, why := tr.Make(names(s), kind)
	if why != api.OK {
		t.Fatalf("P11.1: Make(%s, %d): %d, must be 0", s, kind, int(why))
	}
	return id
}

// does holds that a call that must do does.
func does(t *testing.T, name string, why api.Errno) {
	t.Helper()
	if why != api.OK {
		t.Fatalf("%s: %d, must be 0", name, int(why))
	}
}

// looks holds what stands at s.
func looks(t *testing.T, tr *tree.Tree, s string, want int) {
	t.Helper()
	if id, why := tr.Look(names(s)); id != want || why != api.OK {
		t.Errorf("P11.1: Look(%s): %d, %d, must be %d, 0", s, id, int(why), want)
	}
}

// looksNone holds that nothing is found at s, and why.
func looksNone(t *testing.T, tr *tree.Tree, s string, want api.Errno) {
	t.Helper()
	if id, why := tr.Look(names(s)); id != 0 || why != want {
		t.Errorf("P11.1: Look(%s): %d, %d, must be 0, %d", s, id, int(why), int(want))
	}
}

// isNode holds what the node of want's ID is.
func isNode(t *testing.T, tr *tree.Tree, want api.Node) {
	t.Helper()
	if got, ok := tr.Node(want.ID); !ok || got != want {
		t.Errorf("P11.1: Node(%d): %+v, %v, must be %+v, true", want.ID, got, ok, want)
	}
}

// isNone holds that there is no node of that ID.
func isNone(t *testing.T, tr *tree.Tree, id int) {
	t.Helper()
	if got, ok := tr.Node(id); ok || got != (api.Node{}) {
		t.Errorf("P11.1: Node(%d): %+v, %v, must be zero, false", id, got, ok)
	}
}

// lists holds which names stand in a directory.
func lists(t *testing.T, tr *tree.Tree, id int, want ...string) {
	t.Helper()
	if got, why := tr.List(id); why != api.OK || !slices.Equal(got, want) {
		t.Errorf("P11.1: List(%d): %q, %d, must be %q, 0", id, got, int(why), want)
	}
}

// named holds which paths a node has.
func named(t *testing.T, tr *tree.Tree, id int, want ...string) {
	t.Helper()
	var got []string
	for _, p := range tr.Names(id) {
		got = append(got, "/"+strings.Join(p, "/"))
	}
	if !slices.Equal(got, want) {
		t.Errorf("P11.4: Names(%d): %q, must be %q", id, got, want)
	}
}

// holds holds what bytes a file has.
func holds(t *testing.T, tr *tree.Tree, id int, want string) {
	t.Helper()
	if got, why := tr.Read(id, 0, math.MaxInt); why != api.OK || string(got) != want {
		t.Errorf("P11.3: Read(%d) of all: %.40q, %d, must be %.40q, 0", id, got, int(why), want)
	}
}

// The grove's nodes.
const (
	d    = 1 // /d
	e    = 2 // /d/e
	f    = 3 // /d/e/f: open, no bytes
	k    = 4 // /k and /d/k2: closed, kept until 9, `kept`
	o    = 5 // /o: open, `open`
	gone = 6 // open, `gone`, without names
	none = 7
	void = 8 // /void: a directory without names
)

// grove is a tree with something of each kind.
func grove(t *testing.T) *tree.Tree {
	t.Helper()
	tr := tree.New()
	for i, s := range []string{"d/d", "d/d/e", "f/d/e/f", "f/k", "f/o", "f/gone", "f/none", "d/void"} {
		kind := file
		if s[0] == 'd' {
			kind = dir
		}
		if id := makes(t, tr, s[1:], kind); id != i+1 {
			t.Fatalf("P11.1: Make(%s): %d, must be %d", s[1:], id, i+1)
		}
	}
	does(t, "Append", tr.Append(k, []byte("kept")))
	does(t, "Append", tr.Append(o, []byte("open")))
	does(t, "Append", tr.Append(gone, []byte("gone")))
	does(t, "Link", tr.Link(names("/k"), names("/d/k2")))
	does(t, "Seal", tr.Seal(k, 9))
	does(t, "Unlink", tr.Unlink(names("/gone")))
	does(t, "Drop", tr.Drop(none))
	return tr
}

// inGrove holds what each call answers in a grove of its own.
func inGrove(t *testing.T, promise string, calls []call) {
	t.Helper()
	answers(t, promise, func() *tree.Tree { return grove(t) }, calls)
}

// Calls by the paths that they are given.

func lays(s string, kind int) func(*tree.Tree) api.Errno {
	return func(tr *tree.Tree) api.Errno { return makeAt(tr, names(s), kind) }
}

// makeAt holds that beside a refusal there is no ID.
func makeAt(tr *tree.Tree, p []string, kind int) api.Errno {
	id, why := tr.Make(p, kind)
	if (why == api.OK) != (id > 0) {
		return -1
	}
	return why
}

func look(s string) func(*tree.Tree) api.Errno {
	return func(tr *tree.Tree) api.Errno { return lookAt(tr, names(s)) }
}

// lookAt holds that beside a refusal there is no ID.
func lookAt(tr *tree.Tree, p []string) api.Errno {
	id, why := tr.Look(p)
	if why != api.OK && id != 0 {
		return -1
	}
	return why
}

func list(id int) func(*tree.Tree) api.Errno {
	return func(tr *tree.Tree) api.Errno {
		l, why := tr.List(id)
		if why != api.OK && len(l) != 0 {
			return -1
		}
		return why
	}
}

func link(p, to string) func(*tree.Tree) api.Errno {
	return func(tr *tree.Tree) api.Errno { return tr.Link(names(p), names(to)) }
}

func unlink(p string) func(*tree.Tree) api.Errno {
	return func(tr *tree.Tree) api.Errno { return tr.Unlink(names(p)) }
}

func rmdir(p string) func(*tree.Tree) api.Errno {
	return func(tr *tree.Tree) api.Errno { return tr.Rmdir(names(p)) }
}

func rename(p, to string) func(*tree.Tree) api.Errno {
	return func(tr *tree.Tree) api.Errno { return tr.Rename(names(p), names(to)) }
}

func TestNumbers(t *testing.T) {
	if api.File != file || api.Dir != dir || api.MaxNodes != mostNodes || api.MaxDepth != mostDepth || api.MaxFile != mostSize || api.MaxTime != lastTime {
		t.Error("the numbers of package api are others than the table of limits has")
	}
}

func TestRuns(t *testing.T) {
	tr := tree.New()
	makes(t, tr, "/a", dir)
	b := makes(t, tr, "/a/b", file)
	does(t, "Link", tr.Link(names("/a/b"), names("/c")))
	if n, _ := tr.Node(b); n.Links != 2 {
		t.Errorf("P11.2: %d Links, must be two", n.Links)
	}
}

func TestExamples(t *testing.T) {
	tr := tree.New()
	id := makes(t, tr, "/f", file)
	does(t, "Unlink", tr.Unlink(names("/f")))
	named(t, tr, id)
	isNode(t, tr, api.Node{ID: id, Kind: file})
	makes(t, tr, "/a", dir)
	if why := tr.Rename(names("/a"), names("/a/b")); why != api.ErrArg {
		t.Errorf("P11.2: Rename(/a, /a/b): %d, must be %d", int(why), int(api.ErrArg))
	}
}

func TestNew(t *testing.T) {
	tr := tree.New()
	isNode(t, tr, api.Node{ID: 0, Kind: dir, Links: 1, Closed: true})
	for _, id := range []int{1, 2, 63, 64, 65535, 65536, -1, math.MaxInt, math.MinInt} {
		isNone(t, tr, id)
	}
	lists(t, tr, 0)
	looks(t, tr, "/", 0)
	if n := tr.Count(); n != 1 {
		t.Errorf("P11.4: Count: %d, must be 1", n)
	}
	makes(t, tr, "/a", file)
	if n := tree.New().Count(); n != 1 {
		t.Errorf("a new Tree has %d nodes: what was made in another one", n)
	}
}

func TestMadeNodes(t *testing.T) {
	tr := tree.New()
	if id := makes(t, tr, "/f", file); id != 1 {
		t.Errorf("P11.1: the first ID: %d, must be 1", id)
	}
	if id := makes(t, tr, "/d", dir); id != 2 {
		t.Errorf("P11.1: the second ID: %d, must be 2", id)
	}
	isNode(t, tr, api.Node{ID: 1, Kind: file, Links: 1})
	isNode(t, tr, api.Node{ID: 2, Kind: dir, Links: 1, Closed: true})
	isNode(t, tr, api.Node{ID: 0, Kind: dir, Links: 1, Closed: true})
	holds(t, tr, 1, "")
	lists(t, tr, 2)
	looks(t, tr, "/f", 1)
	looks(t, tr, "/d", 2)
}

func TestLeastFreeID(t *testing.T) {
	tr := tree.New()
	for _, s := range []string{"/1", "/2", "/3", "/4", "/5"} {
		makes(t, tr, s, file)
	}
	does(t, "Drop", tr.Drop(4))
	does(t, "Drop", tr.Drop(2))
	for i, want := range []int{2, 4, 6, 7} {
		if id := makes(t, tr, "/n"+string(rune('0'+i)), dir); id != want {
			t.Errorf("P11.1: Make: ID %d, must be %d: the least that is free", id, want)
		}
	}
	does(t, "Unlink", tr.Unlink(names("/1")))
	if id := makes(t, tr, "/x", file); id != 8 {
		t.Errorf("P11.1: Make: ID %d, must be 8: an open file without names has its own", id)
	}
	does(t, "Rmdir", tr.Rmdir(names("/n0")))
	if id := makes(t, tr, "/y", file); id != 2 {
		t.Errorf("P11.1: Make: ID %d, must be 2", id)
	}
}

// What formed paths are is asked ahead of all else, even of a Kind that is
// none; of p ahead of to, and of each of them the names ahead of their number.
func TestFormFirst(t *testing.T) {
	good, bad, long := []string{"d"}, []string{"d", "B"}, deep(9)
	both := append(deep(8), "B")
	lost := []string{"none", "x", "B", "y"}
	huge := slices.Repeat([]string{"a"}, 1<<20)
	for _, c := range []struct {
		p, to []string
		why   api.Errno
	}{
		{bad, good, api.ErrForm}, {long, good, api.ErrLong}, {both, good, api.ErrForm}, {lost, good, api.ErrForm},
		{bad, bad, api.ErrForm}, {bad, long, api.ErrForm}, {long, bad, api.ErrLong}, {both, long, api.ErrForm},
		{long, both, api.ErrLong}, {huge, bad, api.ErrLong}, {append(huge, ""), good, api.ErrForm},
		{[]string{""}, good, api.ErrForm}, {[]string{"."}, good, api.ErrForm}, {[]string{".."}, good, api.ErrForm},
		{[]string{"a/b"}, good, api.ErrForm}, {[]string{"/"}, good, api.ErrForm}, {[]string{strings.Repeat("a", 17)}, good, api.ErrForm},
		{[]string{"d", ""}, good, api.ErrForm}, {[]string{"\xff"}, good, api.ErrForm},
	} {
		calls := []call{
			{"Link", c.why, func(tr *tree.Tree) api.Errno { return tr.Link(c.p, c.to) }},
			{"Rename", c.why, func(tr *tree.Tree) api.Errno { return tr.Rename(c.p, c.to) }},
			{"Look", c.why, func(tr *tree.Tree) api.Errno { return lookAt(tr, c.p) }},
			{"Make", c.why, func(tr *tree.Tree) api.Errno { return makeAt(tr, c.p, file) }},
			{"Make of Kind 3", c.why, func(tr *tree.Tree) api.Errno { return makeAt(tr, c.p, 3) }},
			{"Unlink", c.why, func(tr *tree.Tree) api.Errno { return tr.Unlink(c.p) }},
			{"Rmdir", c.why, func(tr *tree.Tree) api.Errno { return tr.Rmdir(c.p) }},
		}
		inGrove(t, "P11: a path of wrong form", calls)
		// And as to, behind a p that is none, is `/`, or is no file.
		for _, p := range []string{"/none", "/", "/d", "/k", "/k/x"} {
			inGrove(t, "P11: a to of wrong form", []call{
				{"Link", c.why, func(tr *tree.Tree) api.Errno { return tr.Link(names(p), c.p) }},
				{"Rename", c.why, func(tr *tree.Tree) api.Errno { return tr.Rename(names(p), c.p) }},
			})
		}
	}
}

func TestLook(t *testing.T) {
	tr := grove(t)
	for s, id := range map[string]int{"/": 0, "/d": d, "/d/e": e, "/d/e/f": f, "/k": k, "/d/k2": k, "/o": o, "/void": void} {
		looks(t, tr, s, id)
	}
	for s, why := range map[string]api.Errno{
		"/none": api.ErrNone, "/d/none": api.ErrNone, "/d/e/none": api.ErrNone, "/void/x": api.ErrNone, "/gone": api.ErrNone,
		"/none/x": api.ErrNone, "/none/x/y": api.ErrNone, "/d/none/k2": api.ErrNone, "/f": api.ErrNone, "/e": api.ErrNone,
		"/k/x": api.ErrNotDir, "/k/x/y": api.ErrNotDir, "/d/e/f/f": api.ErrNotDir, "/o/d": api.ErrNotDir, "/d/k2/k2": api.ErrNotDir,
		"/k/x/y/4/5/6/7/8": api.ErrNotDir, "/none/2/3/4/5/6/7/8": api.ErrNone, "/d/d": api.ErrNone, "/d/e/e": api.ErrNone,
	} {
		looksNone(t, tr, s, why)
	}
}

func TestLookOfMaxDepth(t *testing.T) {
	tr := tree.New()
	for n := 1; n <= mostDepth; n++ {
		if id, why := tr.Make(deep(n), dir); id != n || why != api.OK {
			t.Fatalf("P11.1: Make of %d names: %d, %d, must be %d, 0", n, id, int(why), n)
		}
		if id, why := tr.Look(deep(n)); id != n || why != api.OK {
			t.Errorf("P11.1: Look of %d names: %d, %d, must be %d, 0", n, id, int(why), n)
		}
	}
	if _, why := tr.Make(deep(mostDepth+1), dir); why != api.ErrLong {
		t.Errorf("P11.1: Make of %d names: %d, must be %d", mostDepth+1, int(why), int(api.ErrLong))
	}
	if _, why := tr.Look(deep(mostDepth + 1)); why != api.ErrLong {
		t.Errorf("P11.1: Look of %d names: %d, must be %d", mostDepth+1, int(why), int(api.ErrLong))
	}
}

func TestMakeRefused(t *testing.T) {
	calls := []call{
		{"Make(/, File)", api.ErrArg, lays("/", file)},
		{"Make(/, Dir)", api.ErrArg, lays("/", dir)},
		{"Make(/none/x)", api.ErrNone, lays("/none/x", file)},
		{"Make(/none/x/y)", api.ErrNone, lays("/none/x/y", dir)},
		{"Make(/k/x)", api.ErrNotDir, lays("/k/x", file)},
		{"Make(/k/x/y)", api.ErrNotDir, lays("/k/x/y", file)},
		{"Make(/d/e/f/x)", api.ErrNotDir, lays("/d/e/f/x", dir)},
		{"Make(/d)", api.ErrThere, lays("/d", dir)},
		{"Make(/d, File)", api.ErrThere, lays("/d", file)},
		{"Make(/k)", api.ErrThere, lays("/k", file)},
		{"Make(/d/k2)", api.ErrThere, lays("/d/k2", dir)},
		{"Make(/d/e/f)", api.ErrThere, lays("/d/e/f", file)},
		{"Make(/gone)", api.OK, lays("/gone", file)},
		{"Make(/d/k)", api.OK, lays("/d/k", dir)},
	}
	for _, kind := range []int{0, 3, -1, 255, 257, 258, math.MaxInt, math.MinInt} {
		for _, s := range []string{"/", "/x", "/none/x", "/k/x", "/d"} {
			calls = append(calls, call{"Make(" + s + ") of no Kind", api.ErrKind, lays(s, kind)})
		}
	}
	inGrove(t, "P11.1", calls)
}

// full is a tree of as many nodes as there may be.
func full(t *testing.T) *tree.Tree {
	t.Helper()
	tr := tree.New()
	for i := 1; i < mostNodes; i++ {
		kind := file
		if i%2 == 0 {
			kind = dir
		}
		if id := makes(t, tr, "/n"+string(rune('0'+i/10))+string(rune('0'+i%10)), kind); id != i {
			t.Fatalf("P11.1: node %d has ID %d", i, id)
		}
	}
	return tr
}

func TestMaxNodes(t *testing.T) {
	tr := full(t)
	if n := tr.Count(); n != mostNodes {
		t.Errorf("P11.4: Count: %d, must be %d", n, mostNodes)
	}
	answers(t, "P11.1", func() *tree.Tree { return full(t) }, []call{
		{"one more", api.ErrMany, lays("/x", file)},
		{"one directory more", api.ErrMany, lays("/n02/x", dir)},
		{"a name that is there", api.ErrThere, lays("/n01", file)},
		{"a place that is not there", api.ErrNone, lays("/x/y", file)},
		{"a place below a file", api.ErrNotDir, lays("/n01/y", file)},
		{"no names", api.ErrArg, lays("/", file)},
		{"no Kind", api.ErrKind, lays("/x", 3)},
		{"a name more", api.OK, link("/n01", "/x")},
		{"another name", api.OK, rename("/n01", "/x")},
	})
	// A file without names counts, too, till it is gone.
	does(t, "Unlink", tr.Unlink(names("/n01")))
	if _, why := tr.Make(names("/x"), file); why != api.ErrMany {
		t.Errorf("P11.1: Make beside %d nodes: %d, must be %d", tr.Count(), int(why), int(api.ErrMany))
	}
	does(t, "Drop", tr.Drop(1))
	if id := makes(t, tr, "/x", file); id != 1 {
		t.Errorf("P11.1: Make: ID %d, must be 1", id)
	}
	if _, why := tr.Make(names("/y"), file); why != api.ErrMany {
		t.Errorf("P11.1: Make beside %d nodes: %d, must be %d", tr.Count(), int(why), int(api.ErrMany))
	}
}

func TestNode(t *testing.T) {
	tr := grove(t)
	for _, n := range []api.Node{
		{ID: 0, Kind: dir, Links: 1, Closed: true},
		{ID: d, Kind: dir, Links: 1, Closed: true},
		{ID: e, Kind: dir, Links: 1, Closed: true},
		{ID: f, Kind: file, Links: 1},
		{ID: k, Kind: file, Links: 2, Size: 4, Until: 9, Closed: true},
		{ID: o, Kind: file, Links: 1, Size: 4},
		{ID: gone, Kind: file, Links: 0, Size: 4},
		{ID: void, Kind: dir, Links: 1, Closed: true},
	} {
		isNode(t, tr, n)
	}
	for _, id := range []int{none, 9, 63, 64, 65536, 65536 + k, -1, -k, math.MaxInt, math.MinInt} {
		isNone(t, tr, id)
	}
}

func TestList(t *testing.T) {
	tr := grove(t)
	lists(t, tr, 0, "d", "k", "o", "void")
	lists(t, tr, d, "e", "k2")
	lists(t, tr, e, "f")
	lists(t, tr, void)
	calls := []call{
		{"List of a file", api.ErrNotDir, list(k)},
		{"List of an open file", api.ErrNotDir, list(f)},
		{"List of a file without names", api.ErrNotDir, list(gone)},
	}
	for _, id := range []int{none, 9, 64, -1, 65536, math.MaxInt, math.MinInt} {
		calls = append(calls, call{"List of none", api.ErrNone, list(id)})
	}
	inGrove(t, "P11.1", calls)
}

// Rising as texts, not as numbers, nor in the order in which they were made.
func TestListRises(t *testing.T) {
	tr := tree.New()
	for _, s := range []string{"b", "a", "10", "9", "1", "a.", "a-", "a_", "aa", "-", "_", "...", "zz", "z", "a0", "ab-c", "ab"} {
		makes(t, tr, "/"+s, file)
	}
	lists(t, tr, 0, "-", "...", "1", "10", "9", "_", "a", "a-", "a.", "a0", "a_", "aa", "ab", "ab-c", "b", "z", "zz")
}

func TestWhatIsHandedInStays(t *testing.T) {
	tr := grove(t)
	room := func(s string) []string { return roomy(names(s)) }
	same := func(name string, l []string, s string) {
		if !slices.Equal(l[:cap(l)][:len(l)+3], append(names(s), "x1", "x2", "x3")) {
			t.Errorf("R2: %s changed what it was handed, or the room behind it: %q", name, l[:cap(l)])
		}
	}
	for _, c := range []struct {
		name, p, to string
		do          func(p, to []string)
	}{
		{"Make", "/d/e/new", "/", func(p, _ []string) { tr.Make(p, dir) }},
		{"Look", "/d/e/f", "/", func(p, _ []string) { tr.Look(p) }},
		{"Link", "/d/e/f", "/d/l", func(p, to []string) { tr.Link(p, to) }},
		{"Rename", "/d/e/f", "/d/e/r", func(p, to []string) { tr.Rename(p, to) }},
		{"Rename of a directory", "/d/e", "/d/ee", func(p, to []string) { tr.Rename(p, to) }},
		{"Unlink", "/d/l", "/", func(p, _ []string) { tr.Unlink(p) }},
		{"Rmdir", "/d/ee/new", "/", func(p, _ []string) { tr.Rmdir(p) }},
	} {
		p, to := room(c.p), room(c.to)
		c.do(p, to)
		same(c.name, p, c.p)
		same(c.name, to, c.to)
	}
	lists(t, tr, d, "ee", "k2")
	lists(t, tr, e, "r")
}

func TestWhatIsHandedInIsNotKept(t *testing.T) {
	tr := tree.New()
	p, to := []string{"a"}, []string{"b"}
	tr.Make(p, dir)
	p[0] = "x"
	lists(t, tr, 0, "a")
	p[0] = "a"
	tr.Rename(p, to)
	p[0], to[0] = "x", "x"
	lists(t, tr, 0, "b")
	q, at := []string{"b", "f"}, []string{"b", "g"}
	tr.Make(q, file)
	tr.Link(q, at)
	q[1], at[1] = "x", "x"
	lists(t, tr, 1, "f", "g")
}

func TestListsAreNewMemory(t *testing.T) {
	tr := grove(t)
	was := tr.Save()
	for range 2 {
		l, _ := tr.List(0)
		l = l[:cap(l)]
		for i := range l {
			l[i] = "zzz"
		}
		lists(t, tr, 0, "d", "k", "o", "void")
	}
	first, _ := tr.List(0)
	first = first[:cap(first)]
	want := slices.Clone(first)
	makes(t, tr, "/a", file)
	does(t, "Unlink", tr.Unlink(names("/k")))
	if !slices.Equal(first, want) {
		t.Errorf("R2: an answer, or its spare room, is written to later: %q", first)
	}
	if n, _ := tr.Node(d); n != (api.Node{ID: d, Kind: dir, Links: 1, Closed: true}) || bytes.Equal(was, tr.Save()) {
		t.Errorf("R2: %+v", n)
	}
}
