package tree_test

import (
	"bytes"
	"math"
	"strings"
	"testing"

	"permafrost/api"
	"permafrost/tree"
)

// Calls by the IDs that they are given.

func appends(id, n int) func(*tree.Tree) api.Errno {
	return func(tr *tree.Tree) api.Errno { return tr.Append(id, make([]byte, n)) }
}

func reads(id, at, n int) func(*tree.Tree) api.Errno {
	return func(tr *tree.Tree) api.Errno {
		b, why := tr.Read(id, at, n)
		if why != api.OK && len(b) != 0 {
			return -1
		}
		return why
	}
}

func seals(id int, until uint64) func(*tree.Tree) api.Errno {
	return func(tr *tree.Tree) api.Errno { return tr.Seal(id, until) }
}

func keeps(id int, until uint64) func(*tree.Tree) api.Errno {
	return func(tr *tree.Tree) api.Errno { return tr.Keep(id, until) }
}

func drops(id int) func(*tree.Tree) api.Errno {
	return func(tr *tree.Tree) api.Errno { return tr.Drop(id) }
}

// noIDs are such as no node of the grove has.
func noIDs() []int {
	return []int{none, 9, 63, 64, 65535, 65536, 65536 + o, -1, -o, math.MaxInt, math.MinInt}
}

func TestAppend(t *testing.T) {
	tr := grove(t)
	does(t, "Append", tr.Append(o, []byte(" and shut")))
	isNode(t, tr, api.Node{ID: o, Kind: file, Links: 1, Size: 13})
	holds(t, tr, o, "open and shut")
	does(t, "Append", tr.Append(o, nil))
	does(t, "Append", tr.Append(o, []byte{}))
	isNode(t, tr, api.Node{ID: o, Kind: file, Links: 1, Size: 13})
	does(t, "Append", tr.Append(f, []byte{0, 255, 0}))
	holds(t, tr, f, "\x00\xff\x00")
	holds(t, tr, o, "open and shut")
	holds(t, tr, k, "kept")
	does(t, "Append", tr.Append(gone, []byte("!")))
	holds(t, tr, gone, "gone!")
}

func TestAppendRefused(t *testing.T) {
	calls := []call{
		{"Append to a directory", api.ErrDir, appends(d, 1)},
		{"Append to /", api.ErrDir, appends(0, 1)},
		{"Append of too much to a directory", api.ErrDir, appends(d, 5000)},
		{"Append of nothing to a directory", api.ErrDir, appends(void, 0)},
		{"Append to a closed file", api.ErrSealed, appends(k, 1)},
		{"Append of nothing to a closed file", api.ErrSealed, appends(k, 0)},
		{"Append of too much to a closed file", api.ErrSealed, appends(k, 5000)},
		{"Append up to MaxFile", api.OK, appends(o, mostSize-4)},
		{"Append up to MaxFile and one", api.ErrSpace, appends(o, mostSize-3)},
		{"Append of MaxFile", api.OK, appends(f, mostSize)},
		{"Append of MaxFile and one", api.ErrSpace, appends(f, mostSize+1)},
		{"Append of very much", api.ErrSpace, appends(f, 1<<24)},
	}
	for _, id := range noIDs() {
		calls = append(calls, call{"Append to none", api.ErrNone, appends(id, 1)})
		calls = append(calls, call{"Append of too much to none", api.ErrNone, appends(id, 5000)})
	}
	inGrove(t, "P11.3", calls)
}

func TestAppendUpToMaxFile(t *testing.T) {
	tr := tree.New()
	id := makes(t, tr, "/f", file)
	want := ""
	for i := 0; len(want) < mostSize; i++ {
		part := strings.Repeat(text(i%600), 50)
		part = part[:min(len(part), mostSize-len(want))]
		does(t, "Append", tr.Append(id, []byte(part)))
		want += part
	}
	isNode(t, tr, api.Node{ID: id, Kind: file, Links: 1, Size: mostSize})
	if why := tr.Append(id, []byte{1}); why != api.ErrSpace {
		t.Errorf("P11.3: Append to MaxFile bytes: %d, must be %d", int(why), int(api.ErrSpace))
	}
	does(t, "Append of nothing", tr.Append(id, nil))
	holds(t, tr, id, want)
}

// R2: neither the bytes nor the room behind them are changed or kept.
func TestAppendKeepsNothing(t *testing.T) {
	tr := tree.New()
	id := makes(t, tr, "/f", file)
	room := []byte("abcdef")
	does(t, "Append", tr.Append(id, room[:3]))
	does(t, "Append", tr.Append(id, []byte("xyz")))
	if string(room) != "abcdef" {
		t.Errorf("R2: Append changed the room behind what it was handed: %q", room)
	}
	clear(room)
	holds(t, tr, id, "abcxyz")
	got, _ := tr.Read(id, 0, 100)
	got = got[:cap(got)]
	for i := range got {
		got[i] = 'z'
	}
	holds(t, tr, id, "abcxyz")
	part, _ := tr.Read(id, 1, 2)
	copy(part[:cap(part)], "zzzzzzzz")
	holds(t, tr, id, "abcxyz")
	first, _ := tr.Read(id, 0, 3)
	whole := bytes.Clone(first[:cap(first)])
	does(t, "Append", tr.Append(id, []byte("q")))
	if !bytes.Equal(first[:cap(first)], whole) {
		t.Error("R2: an answer, or its spare room, is written to later")
	}
	holds(t, tr, id, "abcxyzq")
}

func TestRead(t *testing.T) {
	tr := tree.New()
	id := makes(t, tr, "/f", file)
	all := "0123456789"
	does(t, "Append", tr.Append(id, []byte(all)))
	edges := []int{0, 1, 2, 5, 9, 10, 11, 12, 4096, 65535, 1 << 40, math.MaxInt - 5, math.MaxInt}
	for _, at := range edges {
		for _, n := range edges {
			want := ""
			if at < len(all) {
				want = all[at:]
				want = want[:min(n, len(want))]
			}
			if got, why := tr.Read(id, at, n); why != api.OK || string(got) != want {
				t.Errorf("P11.3: Read(%d, %d): %q, %d, must be %q, 0", at, n, got, int(why), want)
			}
		}
	}
	does(t, "Seal", tr.Seal(id, 3))
	holds(t, tr, id, all)
	if got, why := tr.Read(id, 3, 4); string(got) != "3456" || why != api.OK {
		t.Errorf("P11.3: Read of a closed file: %q, %d", got, int(why))
	}
}

func TestReadRefused(t *testing.T) {
	calls := []call{
		{"Read of a directory", api.ErrDir, reads(d, 0, 1)},
		{"Read of /", api.ErrDir, reads(0, 0, 1)},
		{"Read of a directory at -1", api.ErrDir, reads(d, -1, 1)},
		{"Read of a file without names", api.OK, reads(gone, 0, 1)},
		{"Read of nothing", api.OK, reads(k, 0, 0)},
		{"Read at -1 of none", api.ErrNone, reads(none, -1, 1)},
	}
	for _, id := range noIDs() {
		calls = append(calls, call{"Read of none", api.ErrNone, reads(id, 0, 1)})
	}
	for _, x := range []int{-1, -2, -4096, math.MinInt32, math.MinInt} {
		for _, y := range []int{0, 1, 4, 5000, math.MaxInt, -1, math.MinInt} {
			calls = append(calls, call{"Read below 0", api.ErrArg, reads(k, x, y)})
			calls = append(calls, call{"Read of fewer than 0", api.ErrArg, reads(k, y, x)})
			calls = append(calls, call{"Read of no bytes, below 0", api.ErrArg, reads(f, x, y)})
			calls = append(calls, call{"Read of no bytes, fewer than 0", api.ErrArg, reads(f, y, x)})
		}
	}
	inGrove(t, "P11.3", calls)
}

func TestSeal(t *testing.T) {
	for _, until := range []uint64{0, 1, 9, 1 << 32, lastTime - 1, lastTime} {
		tr := grove(t)
		does(t, "Seal", tr.Seal(o, until))
		isNode(t, tr, api.Node{ID: o, Kind: file, Links: 1, Size: 4, Until: until, Closed: true})
		holds(t, tr, o, "open")
		looks(t, tr, "/o", o)
		isNode(t, tr, api.Node{ID: f, Kind: file, Links: 1})
		if why := tr.Append(o, []byte{1}); why != api.ErrSealed {
			t.Errorf("P11.3: Append to what was sealed: %d, must be %d", int(why), int(api.ErrSealed))
		}
		// Without names it is gone.
		does(t, "Seal", tr.Seal(gone, until))
		isNone(t, tr, gone)
		if n := tr.Count(); n != 7 {
			t.Errorf("P11.4: Count: %d, must be 7", n)
		}
	}
}

func TestSealRefused(t *testing.T) {
	calls := []call{
		{"Seal of a directory", api.ErrDir, seals(d, 5)},
		{"Seal of /", api.ErrDir, seals(0, 5)},
		{"Seal of a directory, too late", api.ErrDir, seals(d, lastTime+1)},
		{"Seal of a closed file", api.ErrSealed, seals(k, 5)},
		{"Seal of a closed file, longer", api.ErrSealed, seals(k, 50)},
		{"Seal of a closed file, too late", api.ErrSealed, seals(k, lastTime+1)},
		{"Seal past MaxTime", api.ErrArg, seals(o, lastTime+1)},
		{"Seal far past MaxTime", api.ErrArg, seals(o, math.MaxUint64)},
		{"Seal past MaxTime, without names", api.ErrArg, seals(gone, lastTime+1)},
		{"Seal until MaxTime", api.OK, seals(o, lastTime)},
	}
	for _, id := range noIDs() {
		calls = append(calls, call{"Seal of none", api.ErrNone, seals(id, 5)})
		calls = append(calls, call{"Seal of none, too late", api.ErrNone, seals(id, lastTime+1)})
	}
	inGrove(t, "P11.3", calls)
}

func TestKeep(t *testing.T) {
	tr := grove(t)
	for _, until := range []uint64{9, 10, 10, 1 << 33, lastTime, lastTime} {
		does(t, "Keep", tr.Keep(k, until))
		isNode(t, tr, api.Node{ID: k, Kind: file, Links: 2, Size: 4, Until: until, Closed: true})
	}
	holds(t, tr, k, "kept")
	if why := tr.Keep(k, lastTime-1); why != api.ErrKept {
		t.Errorf("P11.3: Keep of less: %d, must be %d", int(why), int(api.ErrKept))
	}
	does(t, "Seal", tr.Seal(o, 0))
	does(t, "Keep", tr.Keep(o, 0))
	isNode(t, tr, api.Node{ID: o, Kind: file, Links: 1, Size: 4, Closed: true})
}

func TestKeepRefused(t *testing.T) {
	calls := []call{
		{"Keep of a directory", api.ErrDir, keeps(d, 50)},
		{"Keep of /", api.ErrDir, keeps(0, 50)},
		{"Keep of a directory, too late", api.ErrDir, keeps(d, lastTime+1)},
		{"Keep of an open file", api.ErrBusy, keeps(o, 50)},
		{"Keep of an open file, too late", api.ErrBusy, keeps(o, lastTime+1)},
		{"Keep of an open file without names", api.ErrBusy, keeps(gone, 50)},
		{"Keep of less", api.ErrKept, keeps(k, 8)},
		{"Keep of nothing", api.ErrKept, keeps(k, 0)},
		{"Keep past MaxTime", api.ErrArg, keeps(k, lastTime+1)},
		{"Keep far past MaxTime", api.ErrArg, keeps(k, math.MaxUint64)},
		{"Keep of the same", api.OK, keeps(k, 9)},
	}
	for _, id := range noIDs() {
		calls = append(calls, call{"Keep of none", api.ErrNone, keeps(id, 50)})
		calls = append(calls, call{"Keep of none, too late", api.ErrNone, keeps(id, lastTime+1)})
	}
	inGrove(t, "P11.3", calls)
}

func TestDrop(t *testing.T) {
	tr := grove(t)
	does(t, "Link", tr.Link(names("/o"), names("/d/e/o2")))
	does(t, "Link", tr.Link(names("/o"), names("/d/o3")))
	does(t, "Link", tr.Link(names("/o"), names("/d/o4")))
	does(t, "Drop", tr.Drop(o))
	isNone(t, tr, o)
	lists(t, tr, 0, "d", "k", "void")
	lists(t, tr, d, "e", "k2")
	lists(t, tr, e, "f")
	does(t, "Drop", tr.Drop(gone))
	isNone(t, tr, gone)
	if n := tr.Count(); n != 6 {
		t.Errorf("P11.4: Count: %d, must be 6", n)
	}
	named(t, tr, k, "/d/k2", "/k")
	holds(t, tr, k, "kept")
	if why := tr.Drop(o); why != api.ErrNone {
		t.Errorf("P11.3: Drop of what is gone: %d, must be %d", int(why), int(api.ErrNone))
	}
	// Who comes to its ID has nothing of it.
	if id := makes(t, tr, "/new", file); id != o {
		t.Errorf("P11.1: Make: ID %d, must be %d", id, o)
	}
	named(t, tr, o, "/new")
	holds(t, tr, o, "")
}

func TestDropRefused(t *testing.T) {
	calls := []call{
		{"Drop of a directory", api.ErrDir, drops(void)},
		{"Drop of /", api.ErrDir, drops(0)},
		{"Drop of a closed file", api.ErrSealed, drops(k)},
		{"Drop of an open file", api.OK, drops(f)},
		{"Drop of an open file without names", api.OK, drops(gone)},
	}
	for _, id := range noIDs() {
		calls = append(calls, call{"Drop of none", api.ErrNone, drops(id)})
	}
	inGrove(t, "P11.3", calls)
}
