package bmap_test

import (
	"bytes"
	"math"
	"slices"
	"testing"

	"permafrost/api"
	"permafrost/bmap"
)

// What the table of limits and package api have, and what follows from it.
const (
	sector = 128
	direct = 4
	fan    = 16
	most   = 276
)

// way is what Way answers.
type way struct{ level, a, b int }

// ways are all of them in the order of their blocks, level for level.
func ways() []way {
	var out []way
	for a := range direct {
		out = append(out, way{0, a, 0})
	}
	for a := range fan {
		out = append(out, way{1, a, 0})
	}
	for a := range fan {
		for b := range fan {
			out = append(out, way{2, a, b})
		}
	}
	return out
}

// odd are numbers about the edges of the levels, of ints, and of what fewer
// bits would hold.
func odd() []int {
	out := []int{math.MinInt, math.MinInt + 1, math.MinInt + most, math.MaxInt - most, math.MaxInt - 1, math.MaxInt}
	for _, n := range []int{0, direct, fan, direct + fan, most - fan, most, 1 << 8, 1 << 16, 1 << 31, 1 << 32, 1 << 60, 1 << 62} {
		out = append(out, n-1, n, n+1, -n)
	}
	return out
}

// some are n bytes, none of them 0.
func some(n int) []byte {
	b := make([]byte, n)
	for i := range b {
		b[i] = byte(i*7%251 + 1)
	}
	return b
}

// parts are lists of bytes of those lengths, no two of one content.
func parts(lengths ...int) [][]byte {
	var l [][]byte
	for i, n := range lengths {
		b := some(n)
		for j := range b {
			b[j] ^= byte(i * 8)
		}
		l = append(l, b)
	}
	return l
}

// whole shows the spare room too.
func whole[T any](l []T) []T { return l[:cap(l)] }

// roomy is a copy of l with room behind it, and behind each of its lists, that
// is not empty.
func roomy(l [][]byte) [][]byte {
	out := [][]byte{}
	for _, b := range l {
		out = append(out, behind(b))
	}
	n := len(out)
	return append(out, []byte{0xEE}, some(sector), nil)[:n]
}

// behind is a copy of b with room behind it that is not empty.
func behind(b []byte) []byte {
	return append(bytes.Clone(b), bytes.Repeat([]byte{0xEE}, 2*sector)...)[:len(b)]
}

// shot is a picture of l, its spare room and that of its lists too.
func shot(l [][]byte) [][]byte {
	var out [][]byte
	for _, b := range whole(l) {
		out = append(out, bytes.Clone(whole(b)))
	}
	return out
}

// same tells if two lists of lists are alike.
func same(a, b [][]byte) bool {
	return slices.EqualFunc(a, b, bytes.Equal)
}

// lengths are those of l's lists.
func lengths(l [][]byte) []int {
	var out []int
	for _, b := range l {
		out = append(out, len(b))
	}
	return out
}

// wayIs asks Way of k.
func wayIs(t *testing.T, k int, want way, why api.Errno) {
	t.Helper()
	level, a, b, err := bmap.Way(k)
	if (way{level, a, b}) != want || err != why {
		t.Errorf("P9.1: Way(%d): %d, %d, %d, %d, must be %v, %d", k, level, a, b, err, want, why)
	}
}

// backIs asks Back of w.
func backIs(t *testing.T, w way, want int, why api.Errno) {
	t.Helper()
	if k, err := bmap.Back(w.level, w.a, w.b); k != want || err != why {
		t.Errorf("P9.1: Back(%d, %d, %d): %d, %d, must be %d, %d", w.level, w.a, w.b, k, err, want, why)
	}
}

// extraIs asks Extra of n.
func extraIs(t *testing.T, n, want int, why api.Errno) {
	t.Helper()
	if got, err := bmap.Extra(n); got != want || err != why {
		t.Errorf("P9.1: Extra(%d): %d, %d, must be %d, %d", n, got, err, want, why)
	}
}

func TestLimits(t *testing.T) {
	if bmap.Max != most || len(ways()) != most {
		t.Errorf("P9.1: Max: %d, ways: %d, must be %d", bmap.Max, len(ways()), most)
	}
	if api.Direct != direct || api.Fan != fan || api.Sector != sector {
		t.Errorf("P9.1: Direct %d, Fan %d, Sector %d: must be %d, %d, %d", api.Direct, api.Fan, api.Sector, direct, fan, sector)
	}
	if bmap.Max*sector < api.MaxFile {
		t.Errorf("P9.1: %d blocks do not hold a file of %d bytes", bmap.Max, api.MaxFile)
	}
}

func TestWay(t *testing.T) {
	for k, want := range map[int]way{
		0: {0, 0, 0}, 1: {0, 1, 0}, 3: {0, 3, 0},
		4: {1, 0, 0}, 5: {1, 1, 0}, 19: {1, 15, 0},
		20: {2, 0, 0}, 21: {2, 0, 1}, 35: {2, 0, 15}, 36: {2, 1, 0}, 37: {2, 1, 1}, 259: {2, 14, 15}, 260: {2, 15, 0}, 275: {2, 15, 15},
	} {
		wayIs(t, k, want, api.OK)
	}
	for k, want := range ways() {
		wayIs(t, k, want, api.OK)
	}
}

func TestWayOfNone(t *testing.T) {
	for _, k := range []int{-1, -2, -4, -20, -276, 276, 277, 300, 1 << 20, 1 << 32, 1<<32 + 4, math.MinInt, math.MaxInt} {
		wayIs(t, k, way{}, api.ErrArg)
	}
	for _, k := range odd() {
		if k < 0 || k >= most {
			wayIs(t, k, way{}, api.ErrArg)
		}
	}
}

func TestBack(t *testing.T) {
	for want, w := range ways() {
		backIs(t, w, want, api.OK)
	}
	for k := range most {
		level, a, b, _ := bmap.Way(k)
		backIs(t, way{level, a, b}, k, api.OK)
	}
}

func TestBackOfNone(t *testing.T) {
	for _, w := range []way{
		{0, 4, 0}, {0, -1, 0}, {0, 0, 1}, {0, 3, -1}, {0, 0, 15}, {0, 15, 0},
		{1, 16, 0}, {1, -1, 0}, {1, 0, 1}, {1, 15, -1}, {1, 4, 15},
		{2, 16, 0}, {2, -1, 0}, {2, 0, 16}, {2, 0, -1}, {2, 15, 16}, {2, 16, 15}, {2, 1, -16}, {2, -1, 16},
		{-1, 0, 0}, {3, 0, 0}, {3, 1, 1}, {4, 0, 0}, {-2, 0, 0},
		{math.MaxInt, 0, 0}, {math.MinInt, 0, 0}, {1 << 32, 0, 0}, {1<<32 + 1, 0, 0}, {256, 0, 0},
		{0, math.MaxInt, 0}, {0, math.MinInt, 0}, {1, math.MaxInt, 0}, {1, 0, math.MaxInt}, {1, 0, math.MinInt},
		{2, math.MaxInt, math.MaxInt}, {2, math.MinInt, math.MinInt}, {2, 1 << 60, 0}, {2, 1 << 62, 3}, {2, 0, math.MaxInt},
	} {
		backIs(t, w, 0, api.ErrArg)
	}
}

func TestBackOfAll(t *testing.T) {
	back := map[way]int{}
	for k, w := range ways() {
		back[w] = k
	}
	numbers := odd()
	for n := -1; n < fan+2; n++ {
		numbers = append(numbers, n)
	}
	levels := append(odd(), -1, 0, 1, 2, 3)
	for _, level := range levels {
		for _, a := range numbers {
			for _, b := range numbers {
				w := way{level, a, b}
				if k, there := back[w]; there {
					backIs(t, w, k, api.OK)
				} else {
					backIs(t, w, 0, api.ErrArg)
				}
			}
		}
	}
}

func TestExtra(t *testing.T) {
	for n, want := range map[int]int{
		0: 0, 1: 0, 3: 0, 4: 0,
		5: 1, 6: 1, 19: 1, 20: 1,
		21: 3, 22: 3, 36: 3, 37: 4, 52: 4, 53: 5, 260: 17, 261: 18, 275: 18, 276: 18,
	} {
		extraIs(t, n, want, api.OK)
	}
}

// Each block of numbers is one that some block's way leads by.
func TestExtraByWays(t *testing.T) {
	extraIs(t, 0, 0, api.OK)
	by := map[way]int{}
	for k, w := range ways() {
		switch w.level {
		case 1:
			by[way{1, 0, 0}]++
		case 2:
			by[way{2, 0, 0}]++
			by[way{2, 1, w.a}]++
		}
		extraIs(t, k+1, len(by), api.OK)
	}
}

func TestExtraOfNone(t *testing.T) {
	for _, n := range []int{-1, -4, -16, -276, 277, 278, 1 << 16, 1 << 32, 1<<32 + 5, math.MinInt, math.MaxInt} {
		extraIs(t, n, 0, api.ErrArg)
	}
	for _, n := range odd() {
		if n < 0 || n > most {
			extraIs(t, n, 0, api.ErrArg)
		}
	}
}

func TestBlocks(t *testing.T) {
	for size, want := range map[int]int{
		0: 0, -1: 0, -128: 0, -129: 0, math.MinInt: 0, math.MinInt + 1: 0,
		1: 1, 2: 1, 127: 1, 128: 1, 129: 2, 255: 2, 256: 2, 257: 3, 600: 5, 4095: 32, 4096: 32, 4097: 33,
		1<<31 - 1: 1 << 24, 1 << 31: 1 << 24, 1<<31 + 1: 1<<24 + 1,
		math.MaxInt - 128: 1<<56 - 1, math.MaxInt - 127: 1<<56 - 1, math.MaxInt - 126: 1 << 56, math.MaxInt - 1: 1 << 56, math.MaxInt: 1 << 56,
	} {
		if got := bmap.Blocks(size); got != want {
			t.Errorf("P9.2: Blocks(%d): %d, must be %d", size, got, want)
		}
	}
	for size, held := 0, 0; size <= api.MaxFile+2*sector; size++ {
		if size > held*sector {
			held++
		}
		if got := bmap.Blocks(size); got != held {
			t.Errorf("P9.2: Blocks(%d): %d, must be %d", size, got, held)
		}
	}
}

func TestCut(t *testing.T) {
	for n, want := range map[int][]int{
		0: nil, 1: {1}, 127: {127}, 128: {128}, 129: {128, 1}, 255: {128, 127}, 256: {128, 128}, 257: {128, 128, 1},
		600: {128, 128, 128, 128, 88},
	} {
		if got := lengths(bmap.Cut(some(n))); !slices.Equal(got, want) {
			t.Errorf("P9.2: Cut of %d bytes: blocks of %v, must be %v", n, got, want)
		}
	}
	if got := bmap.Cut(nil); len(got) != 0 {
		t.Errorf("P9.2: Cut(nil): %d blocks, must be none", len(got))
	}
	if got := bmap.Cut([]byte{}); len(got) != 0 {
		t.Errorf("P9.2: Cut of none: %d blocks, must be none", len(got))
	}
	if got := bmap.Cut(make([]byte, 130)); !same(got, [][]byte{make([]byte, 128), {0, 0}}) {
		t.Errorf("P9.2: Cut of noughts: %v", got)
	}
}

func TestCutAndGlue(t *testing.T) {
	for n := range 6*sector + 3 {
		b := some(n)
		l := bmap.Cut(b)
		if len(l) != bmap.Blocks(n) {
			t.Errorf("P9.2: Cut of %d bytes: %d blocks, must be %d", n, len(l), bmap.Blocks(n))
		}
		if all := bytes.Join(l, nil); !bytes.Equal(all, b) {
			t.Errorf("P9.2: Cut of %d bytes: other bytes than they were", n)
		}
		for i, part := range l {
			if want := min(sector, n-i*sector); len(part) != want {
				t.Errorf("P9.2: Cut of %d bytes: block %d has %d, must be %d", n, i, len(part), want)
			}
		}
		if got, why := bmap.Glue(l, n); !bytes.Equal(got, b) || why != api.OK {
			t.Errorf("P9.2: Glue of %d bytes cut: %d bytes, %d, must be the same", n, len(got), why)
		}
		for _, size := range []int{n - 1, n + 1, n - sector, n + sector, 0, -n, -1} {
			if size != n {
				glueRefuses(t, l, size)
			}
		}
	}
}

// glueRefuses asks Glue of what it must refuse.
func glueRefuses(t *testing.T, l [][]byte, size int) {
	t.Helper()
	if got, why := bmap.Glue(l, size); len(got) != 0 || why != api.ErrForm {
		t.Errorf("P9.2: Glue(blocks of %v, %d): %d bytes, %d, must be none, ErrForm", lengths(l), size, len(got), why)
	}
}

func TestGlue(t *testing.T) {
	for _, c := range [][]int{{1}, {127}, {128}, {128, 1}, {128, 127}, {128, 128}, {128, 128, 5}, {128, 128, 128, 128, 88}} {
		l := parts(c...)
		want := bytes.Join(l, nil)
		if got, why := bmap.Glue(l, len(want)); !bytes.Equal(got, want) || why != api.OK {
			t.Errorf("P9.2: Glue(blocks of %v, %d): %d bytes, %d, must be all of them", c, len(want), len(got), why)
		}
	}
	for _, l := range [][][]byte{nil, {}} {
		if got, why := bmap.Glue(l, 0); len(got) != 0 || why != api.OK {
			t.Errorf("P9.2: Glue(none, 0): %d bytes, %d, must be nothing", len(got), why)
		}
	}
}

func TestGlueOfWrongForm(t *testing.T) {
	for _, c := range []struct {
		lengths []int
		size    int
	}{
		{nil, 1}, {nil, -1}, {nil, 128}, {nil, math.MaxInt}, {nil, math.MinInt},
		{[]int{0}, 0}, {[]int{0}, 1}, {[]int{0}, -1}, {[]int{1}, 0}, {[]int{1}, 2}, {[]int{1}, 128}, {[]int{2}, 1},
		// All is there, but not in such blocks.
		{[]int{0, 0}, 0}, {[]int{0, 5}, 5}, {[]int{5, 0}, 5}, {[]int{128, 0}, 128}, {[]int{0, 128}, 128}, {[]int{129}, 129}, {[]int{256}, 256},
		{[]int{127, 2}, 129}, {[]int{1, 128}, 129}, {[]int{129, 127}, 256}, {[]int{127, 129}, 256}, {[]int{128, 129}, 257}, {[]int{64, 64}, 128},
		{[]int{128, 127, 2}, 257}, {[]int{127, 128, 2}, 257}, {[]int{128, 128, 128, 0}, 384}, {[]int{127, 129, 128}, 384},
		// Blocks are right, but not that size.
		{[]int{128}, 127}, {[]int{128}, 129}, {[]int{128}, 256}, {[]int{128}, 0}, {[]int{128}, -128}, {[]int{128, 1}, 128}, {[]int{128, 1}, 130},
		{[]int{128, 1}, 256}, {[]int{128, 128}, 255}, {[]int{128, 128}, 257}, {[]int{128, 128, 5}, 260}, {[]int{128, 128, 5}, 133},
		{[]int{1}, 1<<32 + 1}, {[]int{1}, 129}, {[]int{1}, 1 - 128}, {[]int{1}, math.MinInt + 1}, {[]int{1}, math.MaxInt}, {[]int{127}, math.MaxInt},
	} {
		glueRefuses(t, parts(c.lengths...), c.size)
	}
	glueRefuses(t, [][]byte{nil}, 0)
	glueRefuses(t, [][]byte{nil, nil}, 129)
}

// All short lists of blocks, each with all sizes about what it holds.
func TestGlueOfAll(t *testing.T) {
	lists := [][]int{nil}
	for from := 0; len(lists[len(lists)-1]) < 3; {
		to := len(lists)
		for _, l := range lists[from:to] {
			for _, n := range []int{0, 1, 2, 126, 127, 128, 129, 255, 256} {
				lists = append(lists, append(slices.Clone(l), n))
			}
		}
		from = to
	}
	for _, c := range lists {
		l := parts(c...)
		all := bytes.Join(l, nil)
		for size := len(all) - 2; size <= len(all)+2; size++ {
			if size == len(all) && cutSo(c) {
				if got, why := bmap.Glue(l, size); !bytes.Equal(got, all) || why != api.OK {
					t.Errorf("P9.2: Glue(blocks of %v, %d): %d bytes, %d, must be all of them", c, size, len(got), why)
				}
			} else {
				glueRefuses(t, l, size)
			}
		}
	}
}

// cutSo tells if blocks of those lengths are what some bytes are cut in.
func cutSo(lengths []int) bool {
	for i, n := range lengths {
		if n < 1 || n > sector || n < sector && i < len(lengths)-1 {
			return false
		}
	}
	return true
}

func TestCutIsByItself(t *testing.T) {
	for _, n := range []int{0, 1, 127, 128, 129, 300, 384} {
		b := behind(some(n))
		was := bytes.Clone(whole(b))
		l := bmap.Cut(b)
		if !bytes.Equal(whole(b), was) {
			t.Errorf("R2: Cut of %d bytes changed them, or their room", n)
		}
		for _, part := range l {
			clear(whole(part))
		}
		if !bytes.Equal(whole(b), was) {
			t.Errorf("R2: Cut of %d bytes: its blocks share the bytes' memory", n)
		}
		l = bmap.Cut(b)
		clear(whole(b))
		if all := bytes.Join(l, nil); !bytes.Equal(all, was[:n]) {
			t.Errorf("R2: Cut of %d bytes: its blocks follow the bytes", n)
		}
		for i, part := range l {
			for j := range whole(part) {
				whole(part)[j] = byte(i + 1)
			}
		}
		for i, part := range l {
			if bytes.Count(whole(part), []byte{byte(i + 1)}) != cap(part) {
				t.Errorf("R2: Cut of %d bytes: block %d shares memory with another", n, i)
			}
		}
	}
}

func TestCutReadsNoRoom(t *testing.T) {
	for _, n := range []int{0, 1, 128, 130, 256} {
		for _, part := range bmap.Cut(behind(some(n))) {
			if bytes.Contains(whole(part), []byte{0xEE, 0xEE}) {
				t.Errorf("R5: Cut of %d bytes: a block holds what stood behind them", n)
			}
		}
	}
}

func TestGlueIsByItself(t *testing.T) {
	for _, c := range [][]int{nil, {1}, {128}, {128, 1}, {128, 128}, {128, 128, 44}} {
		l := roomy(parts(c...))
		was := shot(l)
		all := bytes.Join(l, nil)
		got, why := bmap.Glue(l, len(all))
		if why != api.OK || !bytes.Equal(got, all) {
			t.Errorf("R5: Glue(blocks of %v with room behind): %d bytes, %d, must be all of them", c, len(got), why)
		}
		if bytes.Contains(whole(got), []byte{0xEE, 0xEE}) {
			t.Errorf("R5: Glue(blocks of %v): the answer holds what stood behind them", c)
		}
		clear(whole(got))
		if !same(shot(l), was) {
			t.Errorf("R2: Glue(blocks of %v) changed them, or shares their memory", c)
		}
		glueRefuses(t, l, len(all)+1)
		glueRefuses(t, l, len(all)+sector)
		if !same(shot(l), was) {
			t.Errorf("R3: Glue(blocks of %v), refused, changed them", c)
		}
		got, _ = bmap.Glue(l, len(all))
		for _, b := range whole(l) {
			clear(whole(b))
		}
		if !bytes.Equal(got, all) {
			t.Errorf("R2: Glue(blocks of %v): the answer follows the blocks", c)
		}
	}
}

// One list may be handed in as several blocks.
func TestGlueOfOneList(t *testing.T) {
	b := some(sector)
	got, why := bmap.Glue([][]byte{b, b, b[:7]}, 2*sector+7)
	if want := slices.Concat(b, b, b[:7]); !bytes.Equal(got, want) || why != api.OK {
		t.Errorf("P9.2: Glue of one list, thrice: %d bytes, %d, must be %d", len(got), why, len(want))
	}
}

func TestSameAnswers(t *testing.T) {
	for range 2 {
		wayIs(t, 20, way{2, 0, 0}, api.OK)
		wayIs(t, most, way{}, api.ErrArg)
		backIs(t, way{1, 3, 0}, 7, api.OK)
		extraIs(t, 5, 1, api.OK)
		glueRefuses(t, nil, 1)
	}
}
