package worm_test

import (
	"math"
	"testing"

	"permafrost/api"
	"permafrost/worm"
)

// What the table of limits and package api have.
const (
	lastTime = 1 << 40
	file     = 1
	dir      = 2
)

// closed is a file that is kept until then.
func closed(links int, until uint64) api.Node {
	return api.Node{ID: 3, Kind: file, Links: links, Size: 4, Until: until, Closed: true}
}

// open is a file that is still being written, kept until then if that is asked
// all the same.
func open(links int, until uint64) api.Node {
	return api.Node{ID: 3, Kind: file, Links: links, Size: 4, Until: until}
}

// aDir is a directory.
func aDir() api.Node {
	return api.Node{ID: 3, Kind: dir, Links: 1, Closed: true}
}

// kinds are such as are none.
func kinds() []int {
	return []int{math.MinInt, -255, -2, -1, 0, 3, 4, 128, 255, 256, 257, 258, 65537, 65538, 1<<32 + 1, 1<<32 + 2, math.MaxInt}
}

// times are ordinary numbers, and those about the edges.
func times() []uint64 {
	return []uint64{0, 1, 3, 4, 5, 6, 9, 1 << 32, 1<<32 + 5, lastTime - 1, lastTime, lastTime + 1, 2 * lastTime, 1<<63 - 1, 1 << 63, math.MaxUint64 - 1, math.MaxUint64}
}

// isWrite holds what Write answers.
func isWrite(t *testing.T, n api.Node, want api.Errno) {
	t.Helper()
	if got := worm.Write(n); got != want {
		t.Errorf("P12.1: Write(%+v): %d, must be %d", n, int(got), int(want))
	}
}

// isRemove holds what Remove answers.
func isRemove(t *testing.T, n api.Node, now uint64, want api.Errno) {
	t.Helper()
	if got := worm.Remove(n, now); got != want {
		t.Errorf("P12.1: Remove(%+v, %d): %d, must be %d", n, now, int(got), int(want))
	}
}

// isKeep holds what Keep answers.
func isKeep(t *testing.T, n api.Node, until uint64, want api.Errno) {
	t.Helper()
	if got := worm.Keep(n, until); got != want {
		t.Errorf("P12.1: Keep(%+v, %d): %d, must be %d", n, until, int(got), int(want))
	}
}

func TestNumbers(t *testing.T) {
	if api.File != file || api.Dir != dir || uint64(api.MaxTime) != lastTime {
		t.Error("package api has other numbers than the document")
	}
}

func TestRunsAndExamples(t *testing.T) {
	isRemove(t, closed(1, 5), 4, api.ErrKept)
	isRemove(t, closed(2, 5), 4, api.OK)
	isRemove(t, closed(1, 5), 5, api.OK)
}

func TestWrite(t *testing.T) {
	isWrite(t, aDir(), api.ErrDir)
	isWrite(t, api.Node{Kind: dir}, api.ErrDir)
	isWrite(t, api.Node{Kind: dir, Links: 1, Closed: true}, api.ErrDir)
	isWrite(t, closed(1, 5), api.ErrSealed)
	isWrite(t, closed(2, 5), api.ErrSealed)
	// It is Closed for good: also when its time has come.
	isWrite(t, closed(1, 0), api.ErrSealed)
	isWrite(t, closed(0, 0), api.ErrSealed)
	isWrite(t, api.Node{Kind: file, Closed: true}, api.ErrSealed)
	isWrite(t, open(1, 0), api.OK)
	isWrite(t, open(0, 0), api.OK)
	isWrite(t, open(2, 0), api.OK)
	isWrite(t, open(1, lastTime), api.OK)
	isWrite(t, api.Node{Kind: file}, api.OK)
	// How many bytes there are is not asked here.
	isWrite(t, api.Node{Kind: file, Size: api.MaxFile}, api.OK)
}

func TestRemove(t *testing.T) {
	for _, c := range []struct {
		n    api.Node
		now  uint64
		want api.Errno
	}{
		{aDir(), 0, api.ErrDir}, {aDir(), lastTime, api.ErrDir},
		{api.Node{Kind: dir, Links: 2, Closed: true}, 5, api.ErrDir}, {api.Node{Kind: dir}, 5, api.ErrDir},
		{api.Node{Kind: dir, Links: 1, Until: 9, Closed: true}, 5, api.ErrDir},
		{open(1, 0), 0, api.OK}, {open(1, 5), 4, api.OK}, {open(0, 5), 4, api.OK}, {open(2, 5), 4, api.OK},
		{closed(2, 5), 4, api.OK}, {closed(2, lastTime), 0, api.OK}, {closed(3, 5), 4, api.OK},
		{closed(64, 5), 4, api.OK}, {closed(65535, 5), 4, api.OK}, {closed(2, 5), 5, api.OK},
		{closed(1, 5), 0, api.ErrKept}, {closed(1, 5), 4, api.ErrKept}, {closed(1, 5), 5, api.OK}, {closed(1, 5), 6, api.OK},
		{closed(1, 0), 0, api.OK}, {closed(1, 1), 0, api.ErrKept}, {closed(1, 0), lastTime, api.OK},
		{closed(1, lastTime), lastTime - 1, api.ErrKept}, {closed(1, lastTime), lastTime, api.OK}, {closed(1, lastTime), 0, api.ErrKept},
		// No more than one Link is what is asked: fewer are no more.
		{closed(0, 5), 4, api.ErrKept}, {closed(0, 5), 5, api.OK},
		{closed(-1, 5), 4, api.ErrKept}, {closed(math.MinInt, 5), 4, api.ErrKept}, {closed(math.MaxInt, 5), 4, api.OK},
		// Due asks of neither if it is a time.
		{closed(1, lastTime+1), lastTime, api.ErrKept}, {closed(1, lastTime+1), lastTime + 1, api.OK},
		{closed(1, math.MaxUint64), lastTime, api.ErrKept}, {closed(1, 1<<63), 1<<63 - 1, api.ErrKept}, {closed(1, 5), math.MaxUint64, api.OK},
	} {
		isRemove(t, c.n, c.now, c.want)
	}
}

func TestKeep(t *testing.T) {
	for _, c := range []struct {
		n     api.Node
		until uint64
		want  api.Errno
	}{
		{aDir(), 0, api.ErrDir}, {aDir(), 9, api.ErrDir}, {aDir(), lastTime + 1, api.ErrDir},
		{api.Node{Kind: dir}, 9, api.ErrDir}, {api.Node{Kind: dir, Links: 1, Until: 9, Closed: true}, 5, api.ErrDir},
		{open(1, 0), 9, api.ErrBusy}, {open(1, 0), 0, api.ErrBusy}, {open(0, 0), 9, api.ErrBusy},
		// Not Closed is told ahead of too short a time, and of what is none.
		{open(1, 5), 4, api.ErrBusy}, {open(1, 5), 6, api.ErrBusy}, {open(1, 0), lastTime + 1, api.ErrBusy}, {open(1, math.MaxUint64), lastTime + 1, api.ErrBusy},
		{closed(1, 5), 0, api.ErrKept}, {closed(1, 5), 4, api.ErrKept}, {closed(2, 5), 4, api.ErrKept}, {closed(1, lastTime), lastTime - 1, api.ErrKept},
		{closed(1, 5), 5, api.OK}, {closed(1, 5), 6, api.OK}, {closed(2, 5), 6, api.OK}, {closed(0, 5), 6, api.OK},
		{closed(1, 0), 0, api.OK}, {closed(1, 0), 1, api.OK}, {closed(1, 5), lastTime - 1, api.OK}, {closed(1, 5), lastTime, api.OK}, {closed(1, lastTime), lastTime, api.OK},
		{closed(1, 5), lastTime + 1, api.ErrArg}, {closed(1, 0), lastTime + 1, api.ErrArg}, {closed(1, lastTime), lastTime + 1, api.ErrArg},
		{closed(1, 5), 1 << 63, api.ErrArg}, {closed(1, 5), math.MaxUint64, api.ErrArg},
		// Too short a time is told ahead of what is none.
		{closed(1, lastTime+2), lastTime + 1, api.ErrKept}, {closed(1, lastTime+1), lastTime, api.ErrKept}, {closed(1, math.MaxUint64), math.MaxUint64 - 1, api.ErrKept},
		{closed(1, lastTime+1), lastTime + 1, api.ErrArg}, {closed(1, math.MaxUint64), math.MaxUint64, api.ErrArg},
	} {
		isKeep(t, c.n, c.until, c.want)
	}
}

func TestKindsThatAreNone(t *testing.T) {
	for _, kind := range kinds() {
		for _, links := range []int{-1, 0, 1, 2} {
			for _, isClosed := range []bool{false, true} {
				for _, until := range times() {
					n := api.Node{ID: 3, Kind: kind, Links: links, Until: until, Closed: isClosed}
					isWrite(t, n, api.ErrKind)
					for _, at := range times() {
						isRemove(t, n, at, api.ErrKind)
						isKeep(t, n, at, api.ErrKind)
					}
				}
			}
		}
	}
	isWrite(t, api.Node{}, api.ErrKind)
	isRemove(t, api.Node{}, 0, api.ErrKind)
	isKeep(t, api.Node{}, 0, api.ErrKind)
}

// rule is a refusal and when it holds. The first that holds is the answer.
type rule struct {
	holds bool
	why   api.Errno
}

// first is the chapter's way to tell: rules one behind the other.
func first(l ...rule) api.Errno {
	for _, r := range l {
		if r.holds {
			return r.why
		}
	}
	return api.OK
}

func TestEveryNodeAtEveryTime(t *testing.T) {
	for _, kind := range append(kinds(), file, dir) {
		for _, links := range []int{math.MinInt, -1, 0, 1, 2, 3, 64, 65535, math.MaxInt} {
			for _, isClosed := range []bool{false, true} {
				for _, until := range times() {
					everyTime(t, api.Node{Kind: kind, Links: links, Until: until, Closed: isClosed})
				}
			}
		}
	}
}

// everyTime holds all that is answered of n against the chapter's sentences.
func everyTime(t *testing.T, n api.Node) {
	t.Helper()
	none := rule{n.Kind != file && n.Kind != dir, api.ErrKind}
	aDir := rule{n.Kind == dir, api.ErrDir}
	isWrite(t, n, first(none, aDir, rule{n.Closed, api.ErrSealed}))
	for _, at := range times() {
		isRemove(t, n, at, first(none, aDir, rule{!n.Closed, api.OK}, rule{n.Links > 1, api.OK}, rule{at < n.Until, api.ErrKept}))
		isKeep(t, n, at, first(none, aDir, rule{!n.Closed, api.ErrBusy}, rule{at < n.Until, api.ErrKept}, rule{at > lastTime, api.ErrArg}))
	}
}

func TestOtherFieldsDoNotMatter(t *testing.T) {
	for _, id := range []int{math.MinInt, -1, 0, 1, 65535, 65536, math.MaxInt} {
		for _, size := range []int{math.MinInt, -1, 0, 1, 4096, 4097, math.MaxInt} {
			kept := api.Node{ID: id, Kind: file, Links: 1, Size: size, Until: 5, Closed: true}
			isWrite(t, kept, api.ErrSealed)
			isRemove(t, kept, 4, api.ErrKept)
			isRemove(t, kept, 5, api.OK)
			isKeep(t, kept, 4, api.ErrKept)
			isKeep(t, kept, 5, api.OK)
			isKeep(t, kept, lastTime+1, api.ErrArg)
			free := api.Node{ID: id, Kind: file, Links: 1, Size: size}
			isWrite(t, free, api.OK)
			isRemove(t, free, 4, api.OK)
			isKeep(t, free, 4, api.ErrBusy)
		}
	}
}

func TestSameAnswers(t *testing.T) {
	for range 3 {
		isWrite(t, closed(1, 5), api.ErrSealed)
		isWrite(t, open(1, 5), api.OK)
		isRemove(t, closed(1, 5), 5, api.OK)
		isRemove(t, closed(1, 5), 4, api.ErrKept)
		isKeep(t, closed(1, 5), 6, api.OK)
		isKeep(t, closed(1, 5), 4, api.ErrKept)
	}
}
