package state_test

import (
	"bytes"
	"math"
	"slices"
	"strconv"
	"strings"
	"testing"

	"permafrost/api"
	"permafrost/snap"
	"permafrost/state"
	"permafrost/tree"
)

// What the table of limits and package api have.
const (
	mostOpen  = 8
	mostWrite = 600
	mostSize  = 4096
	mostNodes = 64
	mostSnaps = 8
	lastTime  = 1 << 40
	file      = 1
	dir       = 2
)

// Operations by what they ask.

func create(p string) api.Op             { return api.Op{Kind: 1, Path: p} }
func mkdir(p string) api.Op              { return api.Op{Kind: 2, Path: p} }
func open(p string, snap int) api.Op     { return api.Op{Kind: 3, Path: p, Snap: snap} }
func read(fd, at, n int) api.Op          { return api.Op{Kind: 4, FD: fd, At: at, N: n} }
func write(fd int, s string) api.Op      { return api.Op{Kind: 5, FD: fd, Data: []byte(s)} }
func shut(fd int, until uint64) api.Op   { return api.Op{Kind: 6, FD: fd, Until: until} }
func link(p, to string) api.Op           { return api.Op{Kind: 7, Path: p, To: to} }
func unlink(p string) api.Op             { return api.Op{Kind: 8, Path: p} }
func rmdir(p string) api.Op              { return api.Op{Kind: 9, Path: p} }
func rename(p, to string) api.Op         { return api.Op{Kind: 10, Path: p, To: to} }
func list(p string, snap int) api.Op     { return api.Op{Kind: 11, Path: p, Snap: snap} }
func stat(p string, snap int) api.Op     { return api.Op{Kind: 12, Path: p, Snap: snap} }
func keep(p string, until uint64) api.Op { return api.Op{Kind: 13, Path: p, Until: until} }
func take() api.Op                       { return api.Op{Kind: 14} }
func forget(id int) api.Op               { return api.Op{Kind: 15, Snap: id} }
func tick(until uint64) api.Op           { return api.Op{Kind: 16, Until: until} }
func synced() api.Op                     { return api.Op{Kind: 17} }

// Replies by what they tell.

func refused(why api.Errno) api.Reply { return api.Reply{Err: why} }
func number(n int) api.Reply          { return api.Reply{N: n} }
func bytesOf(s string) api.Reply      { return api.Reply{N: len(s), Data: []byte(s)} }
func called(l ...string) api.Reply    { return api.Reply{N: len(l), Names: l} }
func noded(n api.Node) api.Reply      { return api.Reply{Node: n} }

// ok is the reply that tells nothing more.
func ok() api.Reply { return api.Reply{} }

// Nodes by what differs.

func opened(id, links, size int) api.Node {
	return api.Node{ID: id, Kind: file, Links: links, Size: size}
}

func closed(id, links, size int, until uint64) api.Node {
	return api.Node{ID: id, Kind: file, Links: links, Size: size, Until: until, Closed: true}
}

func folder(id int) api.Node {
	return api.Node{ID: id, Kind: dir, Links: 1, Closed: true}
}

// turns tells of a kind what the chapter says: may it change anything?
func turns(kind int) bool {
	return slices.Contains([]int{1, 2, 3, 5, 6, 7, 8, 9, 10, 13, 14, 15, 16}, kind)
}

// same holds two replies against one another: a nil list is as an empty one.
func same(a, b api.Reply) bool {
	return a.Err == b.Err && a.N == b.N && a.Node == b.Node && bytes.Equal(a.Data, b.Data) && slices.Equal(a.Names, b.Names)
}

// told is what may be asked of a state by calls that turn nothing.
func told(s *state.State) string {
	var b strings.Builder
	b.WriteString(strconv.FormatUint(s.Now(), 10))
	for _, fd := range s.Open() {
		r := s.Do(read(fd, 0, 2*mostSize))
		b.WriteString(" " + strconv.Itoa(fd) + " " + strconv.Itoa(int(r.Err)) + " " + string(r.Data))
	}
	for _, part := range [][]byte{s.Tree().Save(), s.Snaps().Save(), s.Save()} {
		b.WriteString(" " + string(part))
	}
	return b.String()
}

// gives holds what an operation answers, and that it has changed nothing where
// it may not.
func gives(t *testing.T, s *state.State, o api.Op, want api.Reply) {
	t.Helper()
	was, handed := told(s), slices.Clone(o.Data)
	got := s.Do(o)
	if !same(got, want) {
		t.Fatalf("P14.1: Do(%+v): %+v, must be %+v", o, got, want)
	}
	if !bytes.Equal(o.Data, handed) {
		t.Errorf("R2: Do(%+v) has changed its Data", o)
	}
	if want.Err != api.OK && told(s) != was {
		t.Errorf("R3: Do(%+v) is refused, and has changed something", o)
	}
	if !turns(o.Kind) && told(s) != was {
		t.Errorf("P14.3: Do(%+v) turns nothing, and has changed something", o)
	}
}

// step is an operation, and what must be answered.
type step struct {
	o    api.Op
	want api.Reply
}

// runs does one step behind the other.
func runs(t *testing.T, s *state.State, l ...step) {
	t.Helper()
	for _, x := range l {
		gives(t, s, x.o, x.want)
	}
}

// refusal is an operation, and why it must be refused.
type refusal struct {
	o   api.Op
	why api.Errno
}

// refuses holds that all these change nothing, so that their order is free.
func refuses(t *testing.T, s *state.State, l ...refusal) {
	t.Helper()
	for _, x := range l {
		gives(t, s, x.o, refused(x.why))
	}
}

// does is for what leads to that which a test is about.
func does(t *testing.T, s *state.State, l ...api.Op) {
	t.Helper()
	for _, o := range l {
		if r := s.Do(o); r.Err != api.OK {
			t.Fatalf("Do(%+v): %d, must be 0", o, int(r.Err))
		}
	}
}

// puts lays a closed file at p.
func puts(t *testing.T, s *state.State, p, b string, until uint64) {
	t.Helper()
	r := s.Do(create(p))
	if r.Err != api.OK {
		t.Fatalf("Create %s: %d, must be 0", p, int(r.Err))
	}
	does(t, s, write(r.N, b), shut(r.N, until))
}

// fills takes all descriptors that are free, for reading a file.
func fills(t *testing.T, s *state.State, p string) {
	t.Helper()
	for len(s.Open()) < mostOpen {
		does(t, s, open(p, 0))
	}
}

// isOpen holds which descriptors are not free.
func isOpen(t *testing.T, s *state.State, want ...int) {
	t.Helper()
	if got := s.Open(); !slices.Equal(got, want) {
		t.Errorf("P14.3: Open: %v, must be %v", got, want)
	}
}

// isNow holds the clock.
func isNow(t *testing.T, s *state.State, want uint64) {
	t.Helper()
	if got := s.Now(); got != want {
		t.Errorf("P14.3: Now: %d, must be %d", got, want)
	}
}

// house is a state at the time 5. It has the directories /d (1) and /d/e (2);
// the file /k (3), which is /d/k too, and /one (4), both kept until 9; /due (5),
// kept until 5; /o (6), written to by 0; a file (7) without a name any more,
// written to by 1; and 2 reads /due. Snapshot 1 is of the very beginning, 2 is
// forgotten, and 3 is of what is closed.
func house(t *testing.T) *state.State {
	t.Helper()
	s := state.New()
	does(t, s, take(), take(), forget(2), mkdir("/d"), mkdir("/d/e"))
	puts(t, s, "/k", "kept", 9)
	puts(t, s, "/one", "one", 9)
	puts(t, s, "/due", "due by now", 5)
	does(t, s, link("/k", "/d/k"), tick(5))
	does(t, s, create("/o"), write(0, "open"), create("/gone"), write(1, "gone"), unlink("/gone"))
	does(t, s, open("/due", 0), take())
	return s
}

// noSnaps are such as the house has not.
func noSnaps() []int {
	return []int{2, 4, 5, -1, -3, 255, 256, 257, 1<<32 + 1, lastTime, math.MaxInt, math.MinInt}
}

// noFDs are such as there is none of, whatever is open.
func noFDs() []int {
	return []int{-1, mostOpen, mostOpen + 1, -mostOpen, 256, 1 << 32, math.MaxInt, math.MinInt}
}

func TestNumbers(t *testing.T) {
	if api.MaxOpen != mostOpen || api.MaxWrite != mostWrite || api.MaxFile != mostSize || api.MaxNodes != mostNodes || api.MaxSnaps != mostSnaps || uint64(api.MaxTime) != lastTime || api.Create != 1 || api.Sync != 17 {
		t.Error("package api has other numbers than the document")
	}
}

func TestRunsAndExamples(t *testing.T) {
	s := state.New()
	runs(t, s, step{create("/a"), number(0)}, step{write(0, "a"), number(1)}, step{shut(0, 9), ok()}, step{unlink("/a"), refused(api.ErrKept)})
	runs(t, s, step{create("/b"), number(0)}, step{read(0, 0, 1), refused(api.ErrBad)})
	does(t, s, tick(5), tick(0))
	isNow(t, s, 5)
}

func TestNew(t *testing.T) {
	s := state.New()
	isNow(t, s, 0)
	isOpen(t, s)
	if !bytes.Equal(s.Tree().Save(), tree.New().Save()) {
		t.Error("P14.3: New has another tree than tree.New")
	}
	if !bytes.Equal(s.Snaps().Save(), snap.New().Save()) {
		t.Error("P14.3: New has other snapshots than snap.New")
	}
	runs(t, s, step{list("/", 0), called()}, step{stat("/", 0), noded(folder(0))})
	does(t, s, mkdir("/d"))
	gives(t, state.New(), list("/", 0), called())
}

func TestKindsThatAreNone(t *testing.T) {
	s := house(t)
	for _, kind := range []int{0, -1, 18, 19, 255, 256, 257, 1<<32 + 1, math.MaxInt, math.MinInt} {
		for _, p := range []string{"", "/", "/k", "no path", "/none", "/a/b/c/d/e/f/g/h/i"} {
			gives(t, s, api.Op{Kind: kind, Path: p, To: p, FD: 2, N: 1}, refused(api.ErrKind))
		}
	}
	gives(t, s, api.Op{}, refused(api.ErrKind))
}

// wrongPaths are paths that path.Split refuses.
func wrongPaths() map[string]api.Errno {
	return map[string]api.Errno{
		"": api.ErrForm, "k": api.ErrForm, "/k/": api.ErrForm, "//k": api.ErrForm, "/K": api.ErrForm, "/d/..": api.ErrForm,
		"/seventeen.letters": api.ErrForm, "/a/b/c/d/e/f/g/h/i/": api.ErrForm, "/a/b/c/d/e/f/g/h/i": api.ErrLong,
	}
}

// Where all else is wrong as well the path is told.
func TestPathsFirstOfAll(t *testing.T) {
	s := house(t)
	full := house(t)
	fills(t, full, "/due")
	for p, why := range wrongPaths() {
		for _, x := range []*state.State{s, full} {
			refuses(t, x, refusal{create(p), why}, refusal{mkdir(p), why}, refusal{open(p, 0), why}, refusal{open(p, 9), why},
				refusal{unlink(p), why}, refusal{rmdir(p), why}, refusal{list(p, 0), why}, refusal{list(p, 9), why},
				refusal{stat(p, 0), why}, refusal{stat(p, -1), why}, refusal{keep(p, 0), why}, refusal{keep(p, lastTime+1), why})
		}
		for _, good := range []string{"/k", "/new", "/none/at/all", "/", "/k/below"} {
			refuses(t, s, refusal{link(p, good), why}, refusal{rename(p, good), why}, refusal{link(good, p), why}, refusal{rename(good, p), why})
		}
		for p2, why2 := range wrongPaths() {
			refuses(t, s, refusal{link(p2, p), why2}, refusal{rename(p2, p), why2})
		}
	}
}

func TestDeepestPath(t *testing.T) {
	s := state.New()
	p := ""
	for range 7 {
		p += "/sixteen.letters."
		does(t, s, mkdir(p))
	}
	p += "/f"
	runs(t, s, step{create(p), number(0)}, step{stat(p, 0), noded(opened(8, 1, 0))}, step{create(p + "/g"), refused(api.ErrLong)})
}

// What an operation does not ask does not matter.
func TestWhatIsNotAsked(t *testing.T) {
	much := api.Op{Path: "no path", To: "nor this", FD: -5, At: -5, N: -5, Until: lastTime + 5, Snap: -5, Data: make([]byte, 5000)}
	with := func(turn func(o *api.Op)) api.Op {
		o := much
		turn(&o)
		return o
	}
	s := house(t)
	runs(t, s,
		step{with(func(o *api.Op) { o.Kind, o.Path = 1, "/new" }), number(3)},
		step{with(func(o *api.Op) { o.Kind, o.Path = 2, "/dir" }), ok()},
		step{with(func(o *api.Op) { o.Kind, o.Path, o.Snap = 3, "/k", 3 }), number(4)},
		step{with(func(o *api.Op) { o.Kind, o.FD, o.At, o.N = 4, 2, 0, 3 }), bytesOf("due")},
		step{with(func(o *api.Op) { o.Kind, o.FD, o.Data = 5, 3, nil }), number(0)},
		step{with(func(o *api.Op) { o.Kind, o.FD, o.Until = 6, 3, 7 }), ok()},
		step{with(func(o *api.Op) { o.Kind, o.FD = 6, 4 }), ok()},
		step{with(func(o *api.Op) { o.Kind, o.Path, o.To = 7, "/new", "/new2" }), ok()},
		step{with(func(o *api.Op) { o.Kind, o.Path = 8, "/new2" }), ok()},
		step{with(func(o *api.Op) { o.Kind, o.Path = 9, "/dir" }), ok()},
		step{with(func(o *api.Op) { o.Kind, o.Path, o.To = 10, "/d", "/dd" }), ok()},
		step{with(func(o *api.Op) { o.Kind, o.Path, o.Snap = 11, "/dd", 0 }), called("e", "k")},
		step{with(func(o *api.Op) { o.Kind, o.Path, o.Snap = 12, "/d", 3 }), noded(folder(1))},
		step{with(func(o *api.Op) { o.Kind, o.Path, o.Until = 13, "/one", 10 }), ok()},
		step{with(func(o *api.Op) { o.Kind = 14 }), number(4)},
		step{with(func(o *api.Op) { o.Kind, o.Snap = 15, 1 }), ok()},
		step{with(func(o *api.Op) { o.Kind, o.Until = 16, 6 }), ok()},
		step{with(func(o *api.Op) { o.Kind = 17 }), ok()},
	)
	isNow(t, s, 6)
}

func TestTick(t *testing.T) {
	s := state.New()
	for _, x := range []struct{ until, want uint64 }{
		{0, 0}, {5, 5}, {3, 5}, {0, 5}, {5, 5}, {6, 6}, {lastTime + 1, 6}, {math.MaxUint64, 6},
		{1 << 33, 1 << 33}, {1<<33 - 1, 1 << 33}, {lastTime, lastTime}, {7, lastTime}, {lastTime + 1, lastTime},
	} {
		gives(t, s, tick(x.until), ok())
		isNow(t, s, x.want)
	}
}

func TestSync(t *testing.T) {
	gives(t, state.New(), synced(), ok())
	gives(t, house(t), synced(), ok())
}

func TestTurns(t *testing.T) {
	for kind := -3; kind < 300; kind++ {
		for _, o := range []api.Op{{Kind: kind}, {Kind: kind, Path: "/x", To: "/y", FD: 1, N: 1, Until: 1, Snap: 1, Data: []byte("x")}} {
			if got := state.Turns(o); got != turns(kind) {
				t.Errorf("P14.3: Turns(%+v): %v, must be %v", o, got, turns(kind))
			}
		}
	}
	for _, kind := range []int{math.MaxInt, math.MinInt, 1<<32 + 1} {
		if state.Turns(api.Op{Kind: kind}) {
			t.Errorf("P14.3: Turns of kind %d: true, must be false", kind)
		}
	}
}

// Tree and Snaps are by themselves, and later calls don't turn them.
func TestTreeAndSnapsByThemselves(t *testing.T) {
	s := house(t)
	was := told(s)
	tr, l := s.Tree(), s.Snaps()
	if n := tr.Count(); n != 8 {
		t.Errorf("P14.3: Tree has %d nodes, must have 8", n)
	}
	if got := l.All(); !slices.Equal(got, []int{1, 3}) {
		t.Errorf("P14.3: Snaps: %v, must be 1 and 3", got)
	}
	tr.Drop(6)
	tr.Keep(4, 99)
	tr.Make([]string{"mine"}, dir)
	l.Forget(1, lastTime)
	l.Take(tr)
	if told(s) != was {
		t.Error("R2: what is done to Tree or Snaps is seen in the state")
	}
	if r := s.Do(write(0, "!")); !same(r, number(1)) {
		t.Errorf("R2: Write behind a Drop in another tree: %+v", r)
	}
	s = house(t)
	tr, l = s.Tree(), s.Snaps()
	one, two := tr.Save(), l.Save()
	does(t, s, write(0, "more"), mkdir("/new"), unlink("/due"), keep("/one", 99), take(), forget(1))
	if !bytes.Equal(tr.Save(), one) || !bytes.Equal(l.Save(), two) {
		t.Error("R2: what is done to the state is seen in a Tree or Snaps that it answered")
	}
}
