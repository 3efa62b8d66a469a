package worm_test

import (
	"bytes"
	"math"
	"math/rand"
	"slices"
	"strconv"
	"strings"
	"testing"

	"permafrost/api"
	"permafrost/codec"
	"permafrost/node"
	"permafrost/tree"
	"permafrost/worm"
)

// names are those of a path that a test writes as text.
func names(s string) []string {
	return strings.Split(s[1:], "/")
}

// does holds that a call that must do does.
func does(t *testing.T, name string, why api.Errno) {
	t.Helper()
	if why != api.OK {
		t.Fatalf("%s: %d, must be 0", name, int(why))
	}
}

// makes lays a node at s.
func makes(t *testing.T, tr *tree.Tree, s string, kind int) int {
	t.Helper()
	id, why := tr.Make(names(s), kind)
	does(t, "Make "+s, why)
	return id
}

// seals lays a file at s that is kept until then.
func seals(t *testing.T, tr *tree.Tree, s string, until uint64) int {
	t.Helper()
	id := makes(t, tr, s, file)
	does(t, "Append "+s, tr.Append(id, []byte(s)))
	does(t, "Seal "+s, tr.Seal(id, until))
	return id
}

// lives holds which files must still be there at that time, that Bound tells if
// there is one, and that the tree stays as it is.
func lives(t *testing.T, tr *tree.Tree, now uint64, want ...int) {
	t.Helper()
	was := tr.Save()
	if got := worm.Live(tr, now); !slices.Equal(got, want) {
		t.Errorf("P12.2: Live at %d: %v, must be %v", now, got, want)
	}
	if got := worm.Bound(tr, now); got != (len(want) > 0) {
		t.Errorf("P12.2: Bound at %d: %v, must be %v", now, got, len(want) > 0)
	}
	if !bytes.Equal(tr.Save(), was) {
		t.Error("R2: Live or Bound has changed the tree")
	}
}

func TestLiveOfNil(t *testing.T) {
	for _, now := range times() {
		if got := worm.Live(nil, now); len(got) > 0 {
			t.Errorf("P12.2: Live(nil, %d): %v, must be none", now, got)
		}
		if worm.Bound(nil, now) {
			t.Errorf("P12.2: Bound(nil, %d): true, must be false", now)
		}
	}
}

func TestLiveOfNoFiles(t *testing.T) {
	tr := tree.New()
	for _, now := range times() {
		lives(t, tr, now)
	}
	makes(t, tr, "/a", dir)
	makes(t, tr, "/a/b", dir)
	for _, now := range times() {
		lives(t, tr, now)
	}
}

func TestLiveOfOneFile(t *testing.T) {
	for _, until := range []uint64{0, 1, 5, 1 << 32, lastTime - 1, lastTime} {
		tr := tree.New()
		id := seals(t, tr, "/a", until)
		for _, now := range times() {
			if now < until {
				lives(t, tr, now, id)
			} else {
				lives(t, tr, now)
			}
		}
	}
}

func TestLiveOfOpenFiles(t *testing.T) {
	tr := tree.New()
	id := makes(t, tr, "/a", file)
	does(t, "Append", tr.Append(id, []byte("abc")))
	lives(t, tr, 0)
	does(t, "Unlink", tr.Unlink(names("/a")))
	lives(t, tr, 0)
	kept := seals(t, tr, "/b", 5)
	lives(t, tr, 0, kept)
	does(t, "Drop", tr.Drop(id))
	lives(t, tr, 0, kept)
	again := makes(t, tr, "/c", file)
	lives(t, tr, 0, kept)
	does(t, "Seal", tr.Seal(again, 9))
	lives(t, tr, 0, again, kept)
	lives(t, tr, 5, again)
}

func TestLiveAtEachTime(t *testing.T) {
	tr := tree.New()
	a := seals(t, tr, "/a", 5)
	b := seals(t, tr, "/b", 3)
	c := seals(t, tr, "/c", 0)
	d := seals(t, tr, "/d", lastTime)
	e := seals(t, tr, "/e", 5)
	lives(t, tr, 0, a, b, d, e)
	lives(t, tr, 2, a, b, d, e)
	lives(t, tr, 3, a, d, e)
	lives(t, tr, 4, a, d, e)
	lives(t, tr, 5, d)
	lives(t, tr, lastTime-1, d)
	lives(t, tr, lastTime)
	lives(t, tr, lastTime+1)
	lives(t, tr, math.MaxUint64)
	does(t, "Keep", tr.Keep(c, 9))
	does(t, "Keep", tr.Keep(b, 10))
	lives(t, tr, 8, b, c, d)
	lives(t, tr, 9, b, d)
	lives(t, tr, 10, d)
	// The clock is not the tree's: it may be asked of an earlier time again.
	lives(t, tr, 0, a, b, c, d, e)
}

func TestLiveRisesByNumbersNotNames(t *testing.T) {
	tr := tree.New()
	first := seals(t, tr, "/z", 5)
	makes(t, tr, "/m", dir)
	second := seals(t, tr, "/m/y", 5)
	third := seals(t, tr, "/a", 5)
	makes(t, tr, "/m/b", dir)
	fourth := seals(t, tr, "/m/b/x", 5)
	lives(t, tr, 4, first, second, third, fourth)
	does(t, "Rename", tr.Rename(names("/z"), names("/m/b/a")))
	lives(t, tr, 4, first, second, third, fourth)
	lives(t, tr, 5)
}

func TestLiveOfManyNames(t *testing.T) {
	tr := tree.New()
	makes(t, tr, "/d", dir)
	id := seals(t, tr, "/a", 5)
	other := seals(t, tr, "/b", 5)
	does(t, "Link", tr.Link(names("/a"), names("/c")))
	does(t, "Link", tr.Link(names("/a"), names("/d/a")))
	lives(t, tr, 4, id, other)
	lives(t, tr, 5)
	does(t, "Unlink", tr.Unlink(names("/a")))
	does(t, "Unlink", tr.Unlink(names("/c")))
	lives(t, tr, 4, id, other)
	does(t, "Unlink", tr.Unlink(names("/d/a")))
	lives(t, tr, 4, other)
	does(t, "Unlink", tr.Unlink(names("/b")))
	lives(t, tr, 4)
}

func TestLiveWithHoles(t *testing.T) {
	tr := tree.New()
	var ids []int
	for i := range 20 {
		ids = append(ids, seals(t, tr, "/f"+strconv.Itoa(i), 5))
	}
	var left []int
	for i, id := range ids {
		if i%3 == 2 {
			left = append(left, id)
			continue
		}
		does(t, "Unlink", tr.Unlink(names("/f"+strconv.Itoa(i))))
	}
	lives(t, tr, 4, left...)
	// The holes are ahead of what is left, and taken first.
	again := seals(t, tr, "/again", 9)
	lives(t, tr, 5, again)
	lives(t, tr, 4, append([]int{again}, left...)...)
}

func TestLiveOfAFullTree(t *testing.T) {
	tr := tree.New()
	var all, late []int
	for i := range api.MaxNodes - 1 {
		id := seals(t, tr, "/f"+strconv.Itoa(i), uint64(5+i%2))
		all = append(all, id)
		if i%2 == 1 {
			late = append(late, id)
		}
	}
	if _, why := tr.Make(names("/more"), file); why != api.ErrMany {
		t.Fatalf("the tree is not full: %d", int(why))
	}
	lives(t, tr, 4, all...)
	lives(t, tr, 5, late...)
	lives(t, tr, 6)
}

func TestLiveInTheDepth(t *testing.T) {
	tr := tree.New()
	for i := range api.MaxDepth - 1 {
		makes(t, tr, strings.Repeat("/a", i+1), dir)
	}
	id := seals(t, tr, strings.Repeat("/a", api.MaxDepth), 5)
	lives(t, tr, 4, id)
	lives(t, tr, 5)
}

// image are the bytes of a tree in which each of these files has as many names
// in `/` as its Links.
func image(files []api.Node) []byte {
	type child struct {
		text string
		id   int
	}
	var all []child
	for i, n := range files {
		for k := range n.Links {
			all = append(all, child{"f" + strconv.Itoa(i) + "-" + strconv.Itoa(k), n.ID})
		}
	}
	slices.SortFunc(all, func(a, b child) int { return strings.Compare(a.text, b.text) })
	w := codec.NewWriter()
	w.Short(len(files) + 1)
	root, _ := node.Encode(api.Node{Kind: dir, Links: 1, Closed: true})
	w.Bytes(root)
	w.Bytes(nil)
	w.Short(len(all))
	for _, c := range all {
		w.Bytes([]byte(c.text))
		w.Short(c.id)
	}
	for _, n := range files {
		b, _ := node.Encode(n)
		w.Bytes(b)
		w.Bytes(make([]byte, n.Size))
		w.Short(0)
	}
	return w.Done()
}

// loads reads a tree of these files.
func loads(t *testing.T, files ...api.Node) *tree.Tree {
	t.Helper()
	tr, why := tree.Load(image(files))
	does(t, "Load", why)
	return tr
}

func TestLiveOfGreatNumbers(t *testing.T) {
	tr := loads(t,
		api.Node{ID: 63, Kind: file, Links: 1, Until: 5, Closed: true},
		api.Node{ID: 64, Kind: file, Links: 1, Until: 6, Closed: true},
		api.Node{ID: 300, Kind: file, Links: 2, Until: 9},
		api.Node{ID: 4097, Kind: file, Links: 0, Size: 4},
		api.Node{ID: 65534, Kind: file, Links: 3, Size: 4096, Until: lastTime, Closed: true},
		api.Node{ID: 65535, Kind: file, Links: 1, Until: 7, Closed: true})
	lives(t, tr, 0, 63, 64, 65534, 65535)
	lives(t, tr, 5, 64, 65534, 65535)
	lives(t, tr, 6, 65534, 65535)
	lives(t, tr, 7, 65534)
	lives(t, tr, lastTime)
	lives(t, loads(t, api.Node{ID: 65535, Kind: file, Links: 1, Until: 1, Closed: true}), 0, 65535)
	lives(t, loads(t, api.Node{ID: 65535, Kind: file}), 0)
}

func TestOpenFilesWithATimeAreNotLive(t *testing.T) {
	tr := loads(t,
		api.Node{ID: 1, Kind: file, Links: 1, Until: lastTime},
		api.Node{ID: 2, Kind: file, Links: 1, Until: lastTime, Closed: true},
		api.Node{ID: 3, Kind: file, Links: 0, Until: lastTime})
	lives(t, tr, 0, 2)
	lives(t, tr, lastTime)
}

func TestAFileOfVeryManyNamesIsToldOnce(t *testing.T) {
	tr := loads(t,
		api.Node{ID: 7, Kind: file, Links: 3000, Until: 5, Closed: true},
		api.Node{ID: 9, Kind: file, Links: 1, Until: 5, Closed: true})
	lives(t, tr, 4, 7, 9)
	lives(t, tr, 5)
}

func TestAnswersAreNewMemory(t *testing.T) {
	tr := tree.New()
	a := seals(t, tr, "/a", 5)
	b := seals(t, tr, "/b", 5)
	one := worm.Live(tr, 4)
	whole := one[:cap(one)]
	for i := range whole {
		whole[i] = -7
	}
	lives(t, tr, 4, a, b)
	two := worm.Live(tr, 4)
	clear(two[:cap(two)])
	for _, x := range whole {
		if x != -7 {
			t.Error("R2: an answer, or its spare room, is written to by a later call")
		}
	}
}

// TestLiveIsWhatTheRulesKeep holds Live against the other calls: what is live
// may be neither written nor, by its last name, taken away.
func TestLiveIsWhatTheRulesKeep(t *testing.T) {
	r := rand.New(rand.NewSource(12))
	for range 300 {
		tr := someTree(t, r)
		now := uint64(r.Intn(12))
		live := worm.Live(tr, now)
		for id := range 200 {
			n, ok := tr.Node(id)
			n.Links = 1
			kept := ok && worm.Write(n) == api.ErrSealed && worm.Remove(n, now) == api.ErrKept
			if kept != slices.Contains(live, id) {
				t.Fatalf("P12.2: Live at %d: %v; node %d: %+v", now, live, id, n)
			}
		}
	}
}

// someTree is one that came to be in some way.
func someTree(t *testing.T, r *rand.Rand) *tree.Tree {
	t.Helper()
	tr := tree.New()
	makes(t, tr, "/d", dir)
	spot := func() []string { return names([]string{"/", "/d/"}[r.Intn(2)] + strconv.Itoa(r.Intn(30))) }
	for range 120 {
		// Most of these are refused at times, and that is as good.
		switch r.Intn(8) {
		case 0, 1, 2:
			tr.Make(spot(), file)
		case 3:
			tr.Seal(r.Intn(64), uint64(r.Intn(12)))
		case 4:
			tr.Keep(r.Intn(64), uint64(r.Intn(12)))
		case 5:
			tr.Link(spot(), spot())
		case 6:
			tr.Unlink(spot())
		case 7:
			tr.Rename(spot(), spot())
		}
	}
	return tr
}

func TestLiveOfSomeTrees(t *testing.T) {
	r := rand.New(rand.NewSource(122))
	for range 300 {
		tr := someTree(t, r)
		for now := range uint64(13) {
			var want []int
			for id := range 64 {
				if n, ok := tr.Node(id); ok && n.Kind == file && n.Closed && now < n.Until {
					want = append(want, id)
				}
			}
			lives(t, tr, now, want...)
		}
		if t.Failed() {
			return
		}
	}
}

func TestLiveAnswersTheSameAgain(t *testing.T) {
	tr := tree.New()
	a := seals(t, tr, "/a", 5)
	for range 3 {
		lives(t, tr, 4, a)
		lives(t, tr, 5)
		lives(t, tree.New(), 4)
	}
	same, why := tree.Load(tr.Save())
	does(t, "Load", why)
	lives(t, same, 4, a)
}
