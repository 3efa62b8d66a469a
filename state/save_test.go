package state_test

import (
	"bytes"
	"encoding/binary"
	"math"
	"math/rand"
	"slices"
	"strconv"
	"testing"

	"permafrost/api"
	"permafrost/snap"
	"permafrost/state"
	"permafrost/tree"
)

// form is what a Save has.
type form struct {
	now   uint64
	size  uint64
	tree  []byte
	snaps []byte
}

// formed is a form whose size is right.
func formed(now uint64, tr, snaps []byte) form {
	return form{now, uint64(len(tr)), tr, snaps}
}

func (f form) bytes() []byte {
	b := binary.BigEndian.AppendUint64(nil, f.now)
	b = binary.BigEndian.AppendUint64(b, f.size)
	return slices.Concat(b, f.tree, f.snaps)
}

// loads holds that b is read, and is its Save.
func loads(t *testing.T, name string, b []byte) *state.State {
	t.Helper()
	s, why := state.Load(b)
	if why != api.OK || s == nil {
		t.Fatalf("P14.3: Load of %s: %d, must be 0", name, int(why))
	}
	if !bytes.Equal(s.Save(), b) {
		t.Fatalf("P14.3: Load of %s: its Save is another", name)
	}
	isOpen(t, s)
	return s
}

// loadsNone holds that b is refused.
func loadsNone(t *testing.T, name string, b []byte) {
	t.Helper()
	if s, why := state.Load(b); why != api.ErrForm || s != nil {
		t.Errorf("P14.3: Load of %s: %v, %d, must be none, %d", name, s != nil, int(why), int(api.ErrForm))
	}
}

func TestSaveOfNew(t *testing.T) {
	want := formed(0, tree.New().Save(), snap.New().Save()).bytes()
	if got := state.New().Save(); !bytes.Equal(got, want) {
		t.Errorf("P14.3: Save of New: % x, must be % x", got, want)
	}
	if got := want[:16]; !bytes.Equal(got, []byte{0, 0, 0, 0, 0, 0, 0, 0, 0, 0, 0, 0, 0, 0, 0, 24}) {
		t.Errorf("P14.3: Save of New begins with % x", got)
	}
	s := loads(t, "New's Save", want)
	isNow(t, s, 0)
	gives(t, s, list("/", 0), called())
}

func TestSaveIsOfSettled(t *testing.T) {
	s := house(t)
	tr, l := tree.New(), snap.New()
	l.Take(tr)
	l.Take(tr)
	l.Forget(2, 0)
	for _, p := range [][]string{{"d"}, {"d", "e"}} {
		tr.Make(p, dir)
	}
	for i, text := range []string{"kept", "one", "due by now"} {
		tr.Make([]string{[]string{"k", "one", "due"}[i]}, file)
		tr.Append(3+i, []byte(text))
		tr.Seal(3+i, []uint64{9, 9, 5}[i])
	}
	tr.Link([]string{"k"}, []string{"d", "k"})
	l.Take(tr)
	want := formed(5, tr.Save(), l.Save()).bytes()
	if !bytes.Equal(s.Save(), want) {
		t.Errorf("P14.3: Save: % x, must be % x", s.Save(), want)
	}
	if !bytes.Equal(s.Settled().Save(), want) {
		t.Error("P14.3: Save of Settled is another")
	}
	loads(t, "what was saved", want)
}

func TestSettled(t *testing.T) {
	s := house(t)
	was := told(s)
	c := s.Settled()
	if told(s) != was {
		t.Error("R2: Settled has changed the state")
	}
	isNow(t, c, 5)
	isOpen(t, c)
	if !bytes.Equal(c.Tree().Save(), snap.Committed(s.Tree()).Save()) {
		t.Error("P14.3: Settled: its tree is not Committed")
	}
	if !bytes.Equal(c.Snaps().Save(), s.Snaps().Save()) {
		t.Error("P14.3: Settled has other snapshots")
	}
	for fd := range mostOpen {
		refuses(t, c, refusal{read(fd, 0, 1), api.ErrBad}, refusal{write(fd, "x"), api.ErrBad}, refusal{shut(fd, 0), api.ErrBad})
	}
	runs(t, c, step{stat("/o", 0), refused(api.ErrNone)}, step{list("/", 0), called("d", "due", "k", "one")}, step{stat("/k", 0), noded(closed(3, 2, 4, 9))},
		step{stat("/one", 3), noded(closed(4, 1, 3, 9))}, step{create("/new"), number(0)}, step{stat("/new", 0), noded(opened(6, 1, 0))}, step{take(), number(4)})
	if told(s) != was {
		t.Error("R2: what is done to Settled's state is seen in the other")
	}
}

func TestSettledIsByItself(t *testing.T) {
	s := house(t)
	c := s.Settled()
	was := told(c)
	does(t, s, tick(9), unlink("/one"), unlink("/due"), keep("/k", 77), take(), forget(1), forget(3), mkdir("/new"), write(0, "!"), shut(0, 4), open("/k", 0))
	if told(c) != was {
		t.Error("R2: what is done to the state is seen in Settled's")
	}
	again := c.Settled()
	does(t, again, mkdir("/again"), tick(100), take())
	if told(c) != was {
		t.Error("R2: what is done to Settled's Settled is seen in it")
	}
}

func TestLoadGoesOn(t *testing.T) {
	s := loads(t, "the house", house(t).Save())
	isNow(t, s, 5)
	refuses(t, s, refusal{unlink("/one"), api.ErrKept}, refusal{forget(3), api.ErrKept}, refusal{forget(2), api.ErrSnap}, refusal{stat("/o", 0), api.ErrNone}, refusal{shut(0, 0), api.ErrBad})
	runs(t, s, step{open("/one", 3), number(0)}, step{read(0, 0, 9), bytesOf("one")}, step{unlink("/due"), ok()}, step{create("/new"), number(1)},
		step{stat("/new", 0), noded(opened(5, 1, 0))}, step{take(), number(4)}, step{tick(4), ok()})
	isNow(t, s, 5)
	other := loads(t, "the house", house(t).Save())
	gives(t, other, list("/", 0), called("d", "due", "k", "one"))
}

func TestLoadKeepsNoBytes(t *testing.T) {
	b := house(t).Save()
	was := slices.Clone(b)
	s, _ := state.Load(b)
	if !bytes.Equal(b, was) {
		t.Error("R2: Load has changed its bytes")
	}
	clear(b)
	got := s.Save()
	if !bytes.Equal(got, was) {
		t.Error("R2: Load keeps its bytes")
	}
	got = got[:cap(got)]
	clear(got)
	if !bytes.Equal(s.Save(), was) {
		t.Error("R2: Save keeps its bytes")
	}
}

func TestLoadOfTimes(t *testing.T) {
	tr, l := tree.New().Save(), snap.New().Save()
	for _, now := range []uint64{0, 1, 1 << 32, lastTime - 1, lastTime} {
		s := loads(t, "a right clock", formed(now, tr, l).bytes())
		isNow(t, s, now)
	}
	for _, now := range []uint64{lastTime + 1, 2 * lastTime, 1 << 63, math.MaxUint64} {
		loadsNone(t, "a clock that is not right", formed(now, tr, l).bytes())
	}
}

func TestLoadOfOtherBytes(t *testing.T) {
	b := house(t).Save()
	for n := range b {
		loadsNone(t, strconv.Itoa(n)+" bytes", b[:n])
	}
	loadsNone(t, "nil", nil)
	loadsNone(t, "one byte more", append(slices.Clone(b), 0))
	loadsNone(t, "two Saves", slices.Concat(b, b))
	tr, l := tree.New().Save(), snap.New().Save()
	for _, size := range []uint64{0, 1, 23, 25, 24 + 11, 24 + 12, 1 << 31, 1 << 32, 1<<32 + 24, 1 << 63, 1<<63 + 24, math.MaxUint64} {
		loadsNone(t, "a size of "+strconv.FormatUint(size, 10), form{0, size, tr, l}.bytes())
	}
	loadsNone(t, "no tree", formed(0, nil, l).bytes())
	loadsNone(t, "no snapshots", formed(0, tr, nil).bytes())
	loadsNone(t, "a tree with a byte more", formed(0, append(slices.Clone(tr), 0), l).bytes())
	loadsNone(t, "the snapshots ahead", formed(0, l, tr).bytes())
}

func TestLoadOfWhatIsNotCommitted(t *testing.T) {
	l := snap.New().Save()
	tr := tree.New()
	tr.Make([]string{"f"}, file)
	loadsNone(t, "an open file", formed(0, tr.Save(), l).bytes())
	tr.Append(1, []byte("f"))
	loadsNone(t, "an open file with bytes", formed(9, tr.Save(), l).bytes())
	tr.Seal(1, 3)
	loads(t, "a closed file", formed(0, tr.Save(), l).bytes())
	tr.Make([]string{"g"}, file)
	tr.Unlink([]string{"g"})
	loadsNone(t, "an open file without a name", formed(0, tr.Save(), l).bytes())
	tr.Seal(2, 0)
	loads(t, "a closed file alone", formed(0, tr.Save(), l).bytes())
}

func TestLoadOfTurnedBytes(t *testing.T) {
	b := house(t).Save()
	r := rand.New(rand.NewSource(141))
	read := 0
	for range 4000 {
		c := slices.Clone(b)
		for range 1 + r.Intn(2) {
			c[r.Intn(len(c))] ^= byte(1 << r.Intn(8))
		}
		s, why := state.Load(c)
		if why == api.OK {
			read++
			if !bytes.Equal(s.Save(), c) {
				t.Fatalf("P14.3: Load has read bytes that are not its Save: % x", c)
			}
			does(t, s, mkdir("/new"), take(), synced())
		} else if why != api.ErrForm || s != nil {
			t.Fatalf("P14.3: Load of turned bytes: %d", int(why))
		}
	}
	if read < 100 {
		t.Errorf("only %d rows of bytes were read", read)
	}
}

// many is a tree with a closed file of so many names in `/`.
func many(n int) []byte {
	short := func(b []byte, n int) []byte { return binary.BigEndian.AppendUint16(b, uint16(n)) }
	b := []byte{0, 2, 0, 16, 0, 0, 2, 0, 1, 0, 0, 0, 0, 0, 0, 0, 0, 0, 0, 1, 0, 0}
	b = short(b, n)
	for i := range n {
		text := strconv.Itoa(100000 + i)
		b = short(append(short(b, len(text)), text...), 1)
	}
	b = short(append(b, 0, 16, 0, 1, 1), n)
	return append(b, 0, 0, 0, 0, 0, 0, 0, 0, 0, 0, 1, 0, 0, 0, 0)
}

// R1: a tree that no Save can tell has no Settled, and all else goes on.
func TestMoreNamesThanASaveCanTell(t *testing.T) {
	s := loads(t, "very many names", formed(0, many(math.MaxUint16), snap.New().Save()).bytes())
	if r := s.Do(mkdir("/d")); !same(r, ok()) {
		t.Fatalf("P14.1: Mkdir: %+v", r)
	}
	if s.Tree() != nil || s.Settled() != nil || len(s.Save()) > 0 {
		t.Error("a tree that no Save can tell was told")
	}
	if r := s.Do(open("/100000", 0)); !same(r, ok()) {
		t.Fatalf("P14.1: Open: %+v", r)
	}
	if r := s.Do(rmdir("/d")); !same(r, ok()) {
		t.Fatalf("P14.1: Rmdir: %+v", r)
	}
	loads(t, "as it was", s.Save())
}

// R1: where IDs have come to their end there is no Settled, and all else goes on.
func TestTakeOfTheLastID(t *testing.T) {
	l := binary.BigEndian.AppendUint64(nil, lastTime)
	l = append(append(l, 0, 32), make([]byte, 33)...)
	s := loads(t, "the last ID", formed(0, tree.New().Save(), l).bytes())
	if r := s.Do(take()); !same(r, number(lastTime)) {
		t.Fatalf("P14.1: Take: %+v, must be snap.Take's", r)
	}
	if s.Snaps() != nil || s.Settled() != nil {
		t.Error("snapshots that no Save can tell were told")
	}
	loadsNone(t, "a next ID that is none", s.Save())
	if r := s.Do(list("/", lastTime)); !same(r, called()) {
		t.Fatalf("P14.1: List: %+v", r)
	}
}
