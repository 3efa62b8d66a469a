package snap_test

import (
	"bytes"
	"crypto/sha256"
	"math"
	"slices"
	"strconv"
	"strings"
	"testing"

	"permafrost/api"
	"permafrost/snap"
	"permafrost/tree"
)

// What the table of limits and package api have.
const (
	mostSnaps = 8
	lastTime  = 1 << 40
	file      = 1
	dir       = 2
)

// names are those of a path that a test writes as text.
func names(s string) []string {
	if s == "/" {
		return nil
	}
	return strings.Split(s[1:], "/")
}

// does holds that a call that must do does.
func does(t *testing.T, name string, why api.Errno) {
	t.Helper()
	if why != api.OK {
		t.Fatalf("%s: %d, must be 0", name, int(why))
	}
}

// makes lays a node at s.
func makes(t *testing.T, tr *tree.Tree, s string, kind int) int {
	t.Helper()
	id, why := tr.Make(names(s), kind)
	does(t, "Make "+s, why)
	return id
}

// opens lays a file at s that is still being written.
func opens(t *testing.T, tr *tree.Tree, s string) int {
	t.Helper()
	id := makes(t, tr, s, file)
	does(t, "Append "+s, tr.Append(id, []byte("of "+s)))
	return id
}

// seals lays a file at s that is kept until then.
func seals(t *testing.T, tr *tree.Tree, s string, until uint64) int {
	t.Helper()
	id := opens(t, tr, s)
	does(t, "Seal "+s, tr.Seal(id, until))
	return id
}

// some is a tree with a directory and a file that is kept until then.
func some(t *testing.T, until uint64) *tree.Tree {
	t.Helper()
	tr := tree.New()
	makes(t, tr, "/d", dir)
	seals(t, tr, "/d/a", until)
	return tr
}

// isTree holds that got is a tree, and want's like.
func isTree(t *testing.T, name string, got, want *tree.Tree) {
	t.Helper()
	if got == nil {
		t.Fatalf("%s: none", name)
	}
	if !bytes.Equal(got.Save(), want.Save()) {
		t.Fatalf("%s: another tree than it must be:\n% x\n% x", name, got.Save(), want.Save())
	}
}

// takes holds that a snapshot of tr gets this ID.
func takes(t *testing.T, s *snap.Snaps, tr *tree.Tree, want int) {
	t.Helper()
	was := tr.Save()
	if id, why := s.Take(tr); id != want || why != api.OK {
		t.Fatalf("P13.1: Take: %d, %d, must be %d, 0", id, int(why), want)
	}
	if !bytes.Equal(tr.Save(), was) {
		t.Error("R2: Take has changed the tree")
	}
}

// takesNone holds that no snapshot of tr is taken, and that nothing is changed.
func takesNone(t *testing.T, s *snap.Snaps, tr *tree.Tree, want api.Errno) {
	t.Helper()
	was := s.Save()
	if id, why := s.Take(tr); id != 0 || why != want {
		t.Errorf("P13.1: Take: %d, %d, must be 0, %d", id, int(why), int(want))
	}
	if !bytes.Equal(s.Save(), was) {
		t.Error("R3: Take is refused, and has changed the snapshots")
	}
}

// forgets holds what Forget answers, and that one that is refused has changed
// nothing.
func forgets(t *testing.T, s *snap.Snaps, id int, now uint64, want api.Errno) {
	t.Helper()
	was := s.Save()
	if why := s.Forget(id, now); why != want {
		t.Fatalf("P13.1: Forget(%d, %d): %d, must be %d", id, now, int(why), int(want))
	}
	if want != api.OK && !bytes.Equal(s.Save(), was) {
		t.Error("R3: Forget is refused, and has changed the snapshots")
	}
	if want == api.OK {
		isGone(t, s, id)
	}
}

// isGone holds that there is no snapshot of that ID.
func isGone(t *testing.T, s *snap.Snaps, id int) {
	t.Helper()
	if tr, ok := s.Get(id); tr != nil || ok {
		t.Errorf("P13.1: Get(%d): %v, %v, must be none, false", id, tr != nil, ok)
	}
	if h, ok := s.Hash(id); len(h) > 0 || ok {
		t.Errorf("P13.1: Hash(%d): %x, %v, must be none, false", id, h, ok)
	}
	if slices.Contains(s.All(), id) {
		t.Errorf("P13.1: All: %v has %d", s.All(), id)
	}
}

// isSnap holds what tree a snapshot has.
func isSnap(t *testing.T, s *snap.Snaps, id int, want *tree.Tree) {
	t.Helper()
	tr, ok := s.Get(id)
	if !ok {
		t.Fatalf("P13.1: Get(%d): false, must be true", id)
	}
	isTree(t, "P13.1: Get", tr, want)
}

// isAll holds which snapshots are there.
func isAll(t *testing.T, s *snap.Snaps, want ...int) {
	t.Helper()
	if got := s.All(); !slices.Equal(got, want) {
		t.Errorf("P13.1: All: %v, must be %v", got, want)
	}
}

// isHash holds a snapshot's Hash.
func isHash(t *testing.T, s *snap.Snaps, id int, want []byte) {
	t.Helper()
	if got, ok := s.Hash(id); !ok || !bytes.Equal(got, want) {
		t.Errorf("P13.1: Hash(%d): %x, %v, must be %x, true", id, got, ok, want)
	}
}

// hashed is the hash of parts, one behind the other, by another's means.
func hashed(parts ...[]byte) []byte {
	h := sha256.Sum256(bytes.Join(parts, nil))
	return h[:]
}

// noIDs are such as no snapshot has while fewer than a hundred were taken.
func noIDs() []int {
	return []int{0, -1, -2, -256, 100, 255, 256, 257, 1<<32 + 1, 1<<32 + 2, lastTime, lastTime + 1, math.MaxInt, math.MinInt, math.MinInt + 1}
}

func TestNumbers(t *testing.T) {
	if api.MaxSnaps != mostSnaps || uint64(api.MaxTime) != lastTime || api.File != file || api.Dir != dir {
		t.Error("package api has other numbers than the document")
	}
}

func TestRunsAndExamples(t *testing.T) {
	s := snap.New()
	takes(t, s, tree.New(), 1)
	takes(t, s, tree.New(), 2)
	forgets(t, s, 1, 0, api.OK)
	takes(t, s, tree.New(), 3)
	isAll(t, s, 2, 3)
	forgets(t, s, 9, 0, api.ErrSnap)
	tr, _ := s.Get(2)
	makes(t, tr, "/x", dir)
	isSnap(t, s, 2, tree.New())
}

func TestNewHasNone(t *testing.T) {
	s := snap.New()
	isAll(t, s)
	for _, id := range append(noIDs(), 1, 2, 8, 9) {
		isGone(t, s, id)
		forgets(t, s, id, 0, api.ErrSnap)
	}
	takes(t, s, tree.New(), 1)
	isAll(t, snap.New())
}

func TestTakeOfNil(t *testing.T) {
	s := snap.New()
	takesNone(t, s, nil, api.ErrArg)
	takes(t, s, some(t, 5), 1)
	takesNone(t, s, nil, api.ErrArg)
	takes(t, s, some(t, 5), 2)
}

func TestTakeUpToMaxSnaps(t *testing.T) {
	s := snap.New()
	for i := range mostSnaps {
		takes(t, s, some(t, uint64(i)), i+1)
	}
	takesNone(t, s, tree.New(), api.ErrMany)
	takesNone(t, s, some(t, 5), api.ErrMany)
	// A nil tree is told ahead of too many.
	takesNone(t, s, nil, api.ErrArg)
	isAll(t, s, 1, 2, 3, 4, 5, 6, 7, 8)
	for i := range mostSnaps {
		isSnap(t, s, i+1, some(t, uint64(i)))
	}
	// A refused Take has used no ID up.
	forgets(t, s, 4, lastTime, api.OK)
	takes(t, s, tree.New(), 9)
	isAll(t, s, 1, 2, 3, 5, 6, 7, 8, 9)
	takesNone(t, s, tree.New(), api.ErrMany)
}

func TestIDsNeverComeAgain(t *testing.T) {
	s := snap.New()
	next := 1
	for range 40 {
		takes(t, s, tree.New(), next)
		isAll(t, s, next)
		forgets(t, s, next, 0, api.OK)
		forgets(t, s, next, 0, api.ErrSnap)
		isAll(t, s)
		next++
	}
	for range mostSnaps {
		takes(t, s, tree.New(), next)
		next++
	}
	for range 300 {
		forgets(t, s, s.All()[3], 0, api.OK)
		takes(t, s, tree.New(), next)
		next++
	}
	isAll(t, s, 41, 42, 43, 344, 345, 346, 347, 348)
}

func TestASnapshotIsOfWhatIsCommitted(t *testing.T) {
	tr := some(t, 5)
	want := some(t, 5)
	id := opens(t, tr, "/o")
	does(t, "Link", tr.Link(names("/o"), names("/d/o")))
	gone := opens(t, tr, "/gone")
	does(t, "Unlink", tr.Unlink(names("/gone")))
	s := snap.New()
	takes(t, s, tr, 1)
	isSnap(t, s, 1, want)
	isHash(t, s, 1, hashed(want.Save()))
	if n := tr.Count(); n != 5 {
		t.Errorf("R2: the tree that was handed in has %d nodes, must have 5", n)
	}
	// What is closed later is in the snapshots that are taken later.
	does(t, "Seal", tr.Seal(id, 7))
	does(t, "Drop", tr.Drop(gone))
	takes(t, s, tr, 2)
	isSnap(t, s, 1, want)
	isSnap(t, s, 2, tr)
}

// R2: neither the tree that was handed in nor one that was answered is kept.
func TestSnapshotsAreByThemselves(t *testing.T) {
	tr := some(t, 5)
	s := snap.New()
	takes(t, s, tr, 1)
	was := s.Save()
	turn := func(x *tree.Tree) {
		does(t, "Keep", x.Keep(2, 99))
		does(t, "Rename", x.Rename(names("/d/a"), names("/b")))
		does(t, "Rmdir", x.Rmdir(names("/d")))
		opens(t, x, "/new")
		does(t, "Unlink", x.Unlink(names("/b")))
	}
	turn(tr)
	isSnap(t, s, 1, some(t, 5))
	one, _ := s.Get(1)
	two, _ := s.Get(1)
	turn(one)
	isTree(t, "R2: one Get beside another", two, some(t, 5))
	isSnap(t, s, 1, some(t, 5))
	isHash(t, s, 1, hashed(some(t, 5).Save()))
	if !bytes.Equal(s.Save(), was) {
		t.Error("R2: Save is another when the trees are turned")
	}
	forgets(t, s, 1, 4, api.ErrKept)
	forgets(t, s, 1, 5, api.OK)
	isTree(t, "R2: what was got of a snapshot that is forgotten", two, some(t, 5))
	turn(two)
}

func TestForgetWhatIsNone(t *testing.T) {
	s := snap.New()
	takes(t, s, some(t, 5), 1)
	takes(t, s, tree.New(), 2)
	takes(t, s, tree.New(), 3)
	forgets(t, s, 2, 0, api.OK)
	for _, id := range append(noIDs(), 2, 4, 5) {
		for _, now := range []uint64{0, 5, lastTime, math.MaxUint64} {
			forgets(t, s, id, now, api.ErrSnap)
		}
		isGone(t, s, id)
	}
	isAll(t, s, 1, 3)
}

func TestForgetAtEachTime(t *testing.T) {
	for _, until := range []uint64{0, 1, 5, 1 << 32, lastTime - 1, lastTime} {
		for _, now := range []uint64{0, 1, 4, 5, 6, 1<<32 - 1, 1 << 32, lastTime - 1, lastTime, lastTime + 1, math.MaxUint64} {
			s := snap.New()
			takes(t, s, some(t, until), 1)
			if now < until {
				forgets(t, s, 1, now, api.ErrKept)
				isSnap(t, s, 1, some(t, until))
				isAll(t, s, 1)
			} else {
				forgets(t, s, 1, now, api.OK)
				isAll(t, s)
			}
		}
	}
}

func TestOneKeptFileBinds(t *testing.T) {
	tr := tree.New()
	for i, until := range []uint64{3, 9, 0, 7} {
		seals(t, tr, "/f"+strconv.Itoa(i), until)
	}
	s := snap.New()
	takes(t, s, tr, 1)
	forgets(t, s, 1, 0, api.ErrKept)
	forgets(t, s, 1, 7, api.ErrKept)
	forgets(t, s, 1, 8, api.ErrKept)
	forgets(t, s, 1, 9, api.OK)
}

func TestForgetAsksThatSnapshotAlone(t *testing.T) {
	s := snap.New()
	tr := some(t, 5)
	takes(t, s, tr, 1)
	takes(t, s, tree.New(), 2)
	does(t, "Keep", tr.Keep(2, 9))
	takes(t, s, tr, 3)
	forgets(t, s, 2, 0, api.OK)
	forgets(t, s, 3, 5, api.ErrKept)
	// That the file is kept longer now is nothing to the snapshot ahead.
	forgets(t, s, 1, 4, api.ErrKept)
	forgets(t, s, 1, 5, api.OK)
	isAll(t, s, 3)
	isSnap(t, s, 3, tr)
	forgets(t, s, 3, 9, api.OK)
	isAll(t, s)
}

func TestOpenFilesDoNotBind(t *testing.T) {
	s := snap.New()
	tr := tree.New()
	opens(t, tr, "/o")
	takes(t, s, tr, 1)
	// It is Closed in the tree now, and was never in the snapshot.
	does(t, "Seal", tr.Seal(1, lastTime))
	forgets(t, s, 1, 0, api.OK)
}

func TestForgetEachOfThree(t *testing.T) {
	for gone := 1; gone <= 3; gone++ {
		s := snap.New()
		var left []int
		for id := 1; id <= 3; id++ {
			takes(t, s, some(t, uint64(id)), id)
			if id != gone {
				left = append(left, id)
			}
		}
		forgets(t, s, gone, 3, api.OK)
		isAll(t, s, left...)
		for _, id := range left {
			isSnap(t, s, id, some(t, uint64(id)))
		}
	}
}

func TestHashesAreChained(t *testing.T) {
	s := snap.New()
	var ahead []byte
	for i := range 4 {
		tr := some(t, uint64(i))
		takes(t, s, tr, i+1)
		ahead = hashed(ahead, tr.Save())
		isHash(t, s, i+1, ahead)
		if len(ahead) != 32 {
			t.Fatal("a hash has 32 bytes")
		}
	}
	// The same tree again has another Hash.
	takes(t, s, some(t, 3), 5)
	isHash(t, s, 5, hashed(ahead, some(t, 3).Save()))
}

func TestHashesGoOnFromWhatIsForgotten(t *testing.T) {
	a, b, c := hashed(some(t, 1).Save()), []byte(nil), []byte(nil)
	b = hashed(a, some(t, 2).Save())
	c = hashed(b, some(t, 3).Save())
	s := snap.New()
	takes(t, s, some(t, 1), 1)
	takes(t, s, some(t, 2), 2)
	forgets(t, s, 2, 2, api.OK)
	takes(t, s, some(t, 3), 3)
	isHash(t, s, 1, a)
	isHash(t, s, 3, c)
	forgets(t, s, 1, 3, api.OK)
	isHash(t, s, 3, c)
	forgets(t, s, 3, 3, api.OK)
	// None is left, and still the next one goes on from the last.
	takes(t, s, tree.New(), 4)
	isHash(t, s, 4, hashed(c, tree.New().Save()))
	// A Take that is refused stands in no chain.
	takesNone(t, s, nil, api.ErrArg)
	takes(t, s, tree.New(), 5)
	isHash(t, s, 5, hashed(hashed(c, tree.New().Save()), tree.New().Save()))
}

func TestARefusedTakeIsInNoChain(t *testing.T) {
	s := snap.New()
	var ahead []byte
	for i := range mostSnaps {
		takes(t, s, tree.New(), i+1)
		ahead = hashed(ahead, tree.New().Save())
	}
	takesNone(t, s, some(t, 5), api.ErrMany)
	forgets(t, s, 1, 0, api.OK)
	takes(t, s, some(t, 5), 9)
	isHash(t, s, 9, hashed(ahead, some(t, 5).Save()))
}

func TestAnswersAreNewMemory(t *testing.T) {
	s := snap.New()
	takes(t, s, some(t, 5), 1)
	takes(t, s, some(t, 6), 2)
	second := hashed(hashed(some(t, 5).Save()), some(t, 6).Save())
	for range 2 {
		h, _ := s.Hash(2)
		ids, b := s.All(), s.Save()
		fill(h)
		fill(b)
		for i := range ids[:cap(ids)] {
			ids[:cap(ids)][i] = -7
		}
		isHash(t, s, 2, second)
		isAll(t, s, 1, 2)
		isSnap(t, s, 2, some(t, 6))
		loads(t, "what was answered anew", s.Save())
	}
	h, _ := s.Hash(2)
	fill(h)
	takes(t, s, tree.New(), 3)
	isHash(t, s, 3, hashed(second, tree.New().Save()))
}

// fill writes over b and over the room behind it.
func fill(b []byte) {
	b = b[:cap(b)]
	for i := range b {
		b[i] = 0xaa
	}
}

func TestLaterCallsWriteIntoNoAnswer(t *testing.T) {
	s := snap.New()
	takes(t, s, some(t, 5), 1)
	takes(t, s, some(t, 6), 2)
	h, _ := s.Hash(1)
	ids, b := s.All(), s.Save()
	h, ids, b = h[:cap(h)], ids[:cap(ids)], b[:cap(b)]
	h1, ids1, b1 := slices.Clone(h), slices.Clone(ids), slices.Clone(b)
	forgets(t, s, 1, 5, api.OK)
	takes(t, s, some(t, 7), 3)
	takes(t, s, some(t, 8), 4)
	s.Save()
	if !slices.Equal(h, h1) || !slices.Equal(ids, ids1) || !slices.Equal(b, b1) {
		t.Error("R2: an answer, or its spare room, is written to by a later call")
	}
}
