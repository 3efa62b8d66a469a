package node_test

import (
	"bytes"
	"encoding/binary"
	"math"
	"math/rand"
	"testing"

	"permafrost/api"
	"permafrost/node"
)

// What the table of limits and the chapter have.
const (
	mostShort = 65535
	mostSize  = 4096
	lastTime  = 1 << 40
	file      = 1
	dir       = 2
	rowSize   = 16
)

// Where each field begins in a node's bytes.
const (
	idAt, kindAt, linksAt, sizeAt, untilAt, closedAt = 0, 2, 3, 5, 7, 15
)

// row are the bytes that fields have by the chapter, be they Right or not.
func row(n api.Node) []byte {
	b := binary.BigEndian.AppendUint16(nil, uint16(n.ID))
	b = append(b, byte(n.Kind))
	b = binary.BigEndian.AppendUint16(b, uint16(n.Links))
	b = binary.BigEndian.AppendUint16(b, uint16(n.Size))
	b = binary.BigEndian.AppendUint64(b, n.Until)
	if n.Closed {
		return append(b, 1)
	}
	return append(b, 0)
}

// aFile is an ordinary file, closed.
func aFile() api.Node {
	return api.Node{ID: 258, Kind: file, Links: 772, Size: 1286, Until: 0x78090a0b0c, Closed: true}
}

// aDir is an ordinary directory.
func aDir() api.Node {
	return api.Node{ID: 7, Kind: dir, Links: 1, Closed: true}
}

// with is n, changed.
func with(n api.Node, change func(n *api.Node)) api.Node {
	change(&n)
	return n
}

// shorts are numbers about the edges of what a Short holds, and what fewer
// bits of greater ones would hold.
func shorts() []int {
	return []int{math.MinInt, math.MinInt32, -65536, -1, 0, 1, 2, 255, 256, 65534, 65535, 65536, 65537, 1 << 31, 1 << 32, 1<<32 + 1, math.MaxInt}
}

// sizes are numbers about the edges of MaxFile.
func sizes() []int {
	return []int{math.MinInt, -4096, -1, 0, 1, 2, 128, 4095, 4096, 4097, 4098, 8192, 65535, 65536, 65537, 65536 + 4096, 1 << 32, math.MaxInt}
}

// times are numbers about the edges of MaxTime.
func times() []uint64 {
	return []uint64{0, 1, 2, 9, 1 << 32, lastTime - 1, lastTime, lastTime + 1, 2 * lastTime, 1 << 41, 1 << 63, math.MaxUint64}
}

// kinds are the kinds of nodes, and such as are none.
func kinds() []int {
	return []int{math.MinInt, -255, -1, 0, 1, 2, 3, 4, 128, 255, 256, 257, 258, 65537, 65538, math.MaxInt}
}

// good is the chapter's sentence on what is Right, word for word.
func good(n api.Node) bool {
	id := 0 <= n.ID && n.ID <= mostShort
	kind := n.Kind == file || n.Kind == dir
	links := 0 <= n.Links && n.Links <= mostShort
	size := 0 <= n.Size && n.Size <= mostSize && (n.Kind != dir || n.Size == 0)
	until := n.Until <= lastTime && (n.Kind != dir || n.Until == 0)
	closed := n.Kind != dir || n.Closed
	return id && kind && links && size && until && closed
}

// each shows every node of all these numbers, one after the other.
func each(show func(n api.Node)) {
	for _, id := range shorts() {
		for _, kind := range kinds() {
			for _, links := range shorts() {
				for _, size := range sizes() {
					for _, until := range times() {
						show(api.Node{ID: id, Kind: kind, Links: links, Size: size, Until: until})
						show(api.Node{ID: id, Kind: kind, Links: links, Size: size, Until: until, Closed: true})
					}
				}
			}
		}
	}
}

// encodes holds what Encode answers against the bytes that must be.
func encodes(t *testing.T, n api.Node, want []byte) {
	t.Helper()
	got, why := node.Encode(n)
	if why != api.OK || !bytes.Equal(got, want) {
		t.Errorf("P10.1: Encode(%+v): % x, %d, must be % x, 0", n, got, int(why), want)
	}
}

// encodesNone holds that n is refused.
func encodesNone(t *testing.T, n api.Node) {
	t.Helper()
	got, why := node.Encode(n)
	if why != api.ErrForm || len(got) != 0 {
		t.Errorf("P10.1: Encode(%+v): % x, %d, must be none, %d", n, got, int(why), int(api.ErrForm))
	}
}

// decodes holds what Decode answers against the node that must be.
func decodes(t *testing.T, b []byte, want api.Node) {
	t.Helper()
	got, why := node.Decode(b)
	if why != api.OK || got != want {
		t.Errorf("P10.1: Decode(% x): %+v, %d, must be %+v, 0", b, got, int(why), want)
	}
}

// decodesNone holds that b is refused, and by this number alone.
func decodesNone(t *testing.T, b []byte) {
	t.Helper()
	got, why := node.Decode(b)
	if why != api.ErrForm || got != (api.Node{}) {
		t.Errorf("P10.1: Decode(% x): %+v, %d, must be none, %d", b[:min(len(b), 32)], got, int(why), int(api.ErrForm))
	}
}

func TestNumbers(t *testing.T) {
	if api.File != file || api.Dir != dir || api.MaxFile != mostSize || api.MaxTime != lastTime {
		t.Errorf("P10.1: File %d, Dir %d, MaxFile %d, MaxTime %d, must be %d, %d, %d, %d", api.File, api.Dir, api.MaxFile, uint64(api.MaxTime), file, dir, mostSize, uint64(lastTime))
	}
}

func TestRuns(t *testing.T) {
	root := api.Node{ID: 0, Kind: dir, Links: 1, Closed: true}
	want := []byte{0, 0, 2, 0, 1, 0, 0, 0, 0, 0, 0, 0, 0, 0, 0, 1}
	encodes(t, root, want)
	decodes(t, want, root)
}

func TestExamples(t *testing.T) {
	three := with(aFile(), func(n *api.Node) { n.Kind = 3 })
	encodesNone(t, three)
	decodesNone(t, row(three))
	sized := with(aDir(), func(n *api.Node) { n.Size = 1 })
	encodesNone(t, sized)
	decodesNone(t, row(sized))
}

func TestWhereEachFieldStands(t *testing.T) {
	encodes(t, aFile(), []byte{1, 2, 1, 3, 4, 5, 6, 0, 0, 0, 0x78, 9, 10, 11, 12, 1})
	encodes(t, api.Node{Kind: file}, []byte{0, 0, 1, 0, 0, 0, 0, 0, 0, 0, 0, 0, 0, 0, 0, 0})
	encodes(t, api.Node{ID: mostShort, Kind: file, Links: mostShort, Size: mostSize, Until: lastTime},
		[]byte{255, 255, 1, 255, 255, 16, 0, 0, 0, 1, 0, 0, 0, 0, 0, 0})
	encodes(t, api.Node{ID: mostShort, Kind: dir, Links: mostShort, Closed: true},
		[]byte{255, 255, 2, 255, 255, 0, 0, 0, 0, 0, 0, 0, 0, 0, 0, 1})
}

func TestRightOfOneField(t *testing.T) {
	for _, c := range []struct {
		name string
		n    api.Node
		want bool
	}{
		{"a file", aFile(), true},
		{"a directory", aDir(), true},
		{"nothing", api.Node{}, false},
		{"nothing, closed", api.Node{Closed: true}, false},
		{"an open file", with(aFile(), func(n *api.Node) { n.Closed = false }), true},
		{"an open file of nothing", api.Node{Kind: file}, true},
		{"ID -1", with(aFile(), func(n *api.Node) { n.ID = -1 }), false},
		{"ID 0", with(aFile(), func(n *api.Node) { n.ID = 0 }), true},
		{"ID 65535", with(aFile(), func(n *api.Node) { n.ID = 65535 }), true},
		{"ID 65536", with(aFile(), func(n *api.Node) { n.ID = 65536 }), false},
		{"a directory, ID -1", with(aDir(), func(n *api.Node) { n.ID = -1 }), false},
		{"a directory, ID 65535", with(aDir(), func(n *api.Node) { n.ID = 65535 }), true},
		{"a directory, ID 65536", with(aDir(), func(n *api.Node) { n.ID = 65536 }), false},
		{"Kind 0", with(aFile(), func(n *api.Node) { n.Kind = 0 }), false},
		{"Kind 3", with(aFile(), func(n *api.Node) { n.Kind = 3 }), false},
		{"Kind -1", with(aFile(), func(n *api.Node) { n.Kind = -1 }), false},
		{"Kind 257", with(aFile(), func(n *api.Node) { n.Kind = 257 }), false},
		{"Links -1", with(aFile(), func(n *api.Node) { n.Links = -1 }), false},
		{"Links 0", with(aFile(), func(n *api.Node) { n.Links = 0 }), true},
		{"Links 65535", with(aFile(), func(n *api.Node) { n.Links = 65535 }), true},
		{"Links 65536", with(aFile(), func(n *api.Node) { n.Links = 65536 }), false},
		{"a directory, Links 0", with(aDir(), func(n *api.Node) { n.Links = 0 }), true},
		{"a directory, Links 65535", with(aDir(), func(n *api.Node) { n.Links = 65535 }), true},
		{"a directory, Links 65536", with(aDir(), func(n *api.Node) { n.Links = 65536 }), false},
		{"Size -1", with(aFile(), func(n *api.Node) { n.Size = -1 }), false},
		{"Size 0", with(aFile(), func(n *api.Node) { n.Size = 0 }), true},
		{"Size 4096", with(aFile(), func(n *api.Node) { n.Size = 4096 }), true},
		{"Size 4097", with(aFile(), func(n *api.Node) { n.Size = 4097 }), false},
		{"a directory, Size 1", with(aDir(), func(n *api.Node) { n.Size = 1 }), false},
		{"a directory, Size -1", with(aDir(), func(n *api.Node) { n.Size = -1 }), false},
		{"a directory, Size 4096", with(aDir(), func(n *api.Node) { n.Size = 4096 }), false},
		{"Until 0", with(aFile(), func(n *api.Node) { n.Until = 0 }), true},
		{"Until MaxTime", with(aFile(), func(n *api.Node) { n.Until = lastTime }), true},
		{"Until MaxTime and one", with(aFile(), func(n *api.Node) { n.Until = lastTime + 1 }), false},
		{"Until of all ones", with(aFile(), func(n *api.Node) { n.Until = math.MaxUint64 }), false},
		{"a directory, Until 1", with(aDir(), func(n *api.Node) { n.Until = 1 }), false},
		{"a directory, Until MaxTime", with(aDir(), func(n *api.Node) { n.Until = lastTime }), false},
		{"an open directory", with(aDir(), func(n *api.Node) { n.Closed = false }), false},
	} {
		if got := node.Right(c.n); got != c.want {
			t.Errorf("P10.1: Right of %s: %v, must be %v", c.name, got, c.want)
		}
		if c.want {
			encodes(t, c.n, row(c.n))
		} else {
			encodesNone(t, c.n)
		}
	}
}

func TestEveryEdgeWithEveryOther(t *testing.T) {
	each(func(n api.Node) {
		if t.Failed() {
			return
		}
		want := good(n)
		if got := node.Right(n); got != want {
			t.Errorf("P10.1: Right(%+v): %v, must be %v", n, got, want)
		}
		if !want {
			encodesNone(t, n)
			return
		}
		encodes(t, n, row(n))
		decodes(t, row(n), n)
	})
}

func TestDecodeOfWhatIsNotRight(t *testing.T) {
	each(func(n api.Node) {
		fits := 0 <= n.ID && n.ID <= mostShort && 0 <= n.Kind && n.Kind <= 255 && 0 <= n.Links && n.Links <= mostShort && 0 <= n.Size && n.Size <= mostShort
		if t.Failed() || !fits || good(n) {
			return
		}
		decodesNone(t, row(n))
	})
}

func TestDecodeOfEachKind(t *testing.T) {
	for kind := range 256 {
		b := row(api.Node{ID: 5, Links: 1, Closed: true})
		b[kindAt] = byte(kind)
		if kind == file || kind == dir {
			decodes(t, b, api.Node{ID: 5, Kind: kind, Links: 1, Closed: true})
		} else {
			decodesNone(t, b)
		}
	}
}

func TestDecodeOfEachFlag(t *testing.T) {
	for _, n := range []api.Node{aFile(), aDir()} {
		for flag := range 256 {
			b := row(n)
			b[closedAt] = byte(flag)
			switch {
			case flag == 1:
				decodes(t, b, n)
			case flag == 0 && n.Kind == file:
				decodes(t, b, with(n, func(n *api.Node) { n.Closed = false }))
			default:
				decodesNone(t, b)
			}
		}
	}
}

func TestDecodeOfEachShort(t *testing.T) {
	for x := range mostShort + 1 {
		for _, n := range []api.Node{aFile(), aDir()} {
			decodes(t, row(with(n, func(n *api.Node) { n.ID = x })), with(n, func(n *api.Node) { n.ID = x }))
			decodes(t, row(with(n, func(n *api.Node) { n.Links = x })), with(n, func(n *api.Node) { n.Links = x }))
			sized := with(n, func(n *api.Node) { n.Size = x })
			if n.Kind == file && x <= mostSize || x == 0 {
				decodes(t, row(sized), sized)
			} else {
				decodesNone(t, row(sized))
			}
		}
		if t.Failed() {
			return
		}
	}
}

func TestDecodeOfEachBitOfUntil(t *testing.T) {
	for bit := range 64 {
		b := row(api.Node{ID: 5, Kind: file, Links: 1, Closed: true})
		b[untilAt+7-bit/8] |= 1 << (bit % 8)
		if bit <= 40 {
			decodes(t, b, api.Node{ID: 5, Kind: file, Links: 1, Until: 1 << bit, Closed: true})
		} else {
			decodesNone(t, b)
		}
		b[kindAt] = dir
		decodesNone(t, b)
	}
}

func TestDecodeOfAnotherLength(t *testing.T) {
	decodesNone(t, nil)
	decodesNone(t, []byte{})
	for _, n := range []api.Node{aFile(), aDir(), {Kind: file}} {
		b := row(n)
		if len(b) != rowSize {
			t.Fatalf("a row of %d bytes", len(b))
		}
		for k := range rowSize {
			// R5: the bytes that lack stand in the room behind, and are not read.
			decodesNone(t, b[:k])
			decodesNone(t, bytes.Clone(b[:k]))
			decodesNone(t, b[k+1:])
		}
		for _, behind := range [][]byte{{0}, {1}, {255}, b, make([]byte, 1<<20)} {
			decodesNone(t, append(bytes.Clone(b), behind...))
			decodesNone(t, append(bytes.Clone(behind), b...))
		}
	}
	for k := range 40 {
		decodesNone(t, make([]byte, k))
		decodesNone(t, bytes.Repeat([]byte{255}, k))
	}
}

func TestRoomBehindIsNotRead(t *testing.T) {
	for _, n := range []api.Node{aFile(), aDir()} {
		room := append(row(n), 1, 2, 3, 4)
		decodes(t, room[:rowSize], n)
		decodesNone(t, room[:rowSize+1])
		decodesNone(t, room[:rowSize-1])
	}
}

func TestOneByteTurned(t *testing.T) {
	for _, n := range []api.Node{aFile(), aDir(), {Kind: file}, {ID: mostShort, Kind: file, Links: mostShort, Size: mostSize, Until: lastTime, Closed: true}} {
		for at := range rowSize {
			for x := range 256 {
				b := row(n)
				b[at] = byte(x)
				oneRow(t, b)
			}
		}
	}
}

// oneRow holds that b is refused, or is the bytes of the node that it is read
// as: no two rows of bytes are one node.
func oneRow(t *testing.T, b []byte) {
	t.Helper()
	n, why := node.Decode(b)
	if why != api.OK {
		decodesNone(t, b)
		return
	}
	if !good(n) || !bytes.Equal(row(n), b) {
		t.Errorf("P10.1: Decode(% x): %+v, whose bytes are % x", b, n, row(n))
	}
	encodes(t, n, b)
}

func TestAnyBytes(t *testing.T) {
	r := rand.New(rand.NewSource(10))
	for range 200000 {
		b := make([]byte, rowSize)
		r.Read(b)
		b[kindAt] %= 4
		b[sizeAt] %= 18
		clear(b[untilAt : untilAt+2])
		b[untilAt+2] %= 3
		b[closedAt] %= 3
		if r.Intn(2) == 0 {
			clear(b[sizeAt:closedAt])
		}
		n := api.Node{
			ID:     int(b[idAt])<<8 | int(b[idAt+1]),
			Kind:   int(b[kindAt]),
			Links:  int(b[linksAt])<<8 | int(b[linksAt+1]),
			Size:   int(b[sizeAt])<<8 | int(b[sizeAt+1]),
			Until:  binary.BigEndian.Uint64(b[untilAt:]),
			Closed: b[closedAt] == 1,
		}
		if b[closedAt] < 2 && good(n) {
			decodes(t, b, n)
			encodes(t, n, b)
		} else {
			decodesNone(t, b)
		}
		if t.Failed() {
			return
		}
	}
}

func TestWhatIsHandedInStays(t *testing.T) {
	room := append(row(aFile()), 1, 2, 3, 4)
	want := bytes.Clone(room)
	for k := range len(room) + 1 {
		node.Decode(room[:k])
		if !bytes.Equal(room, want) {
			t.Fatalf("R2: Decode of %d bytes changed them, or the room behind them", k)
		}
	}
	n, _ := node.Decode(room[:rowSize])
	clear(room)
	if n != aFile() {
		t.Errorf("R2: what was read hangs on bytes that were handed in: %+v", n)
	}
}

func TestAnswersAreNewMemory(t *testing.T) {
	first, _ := node.Encode(aFile())
	whole := first[:cap(first)]
	for i := range whole {
		whole[i] = 0xaa
	}
	encodes(t, aFile(), row(aFile()))
	second, _ := node.Encode(aDir())
	third, _ := node.Encode(aFile())
	clear(third[:cap(third)])
	if !bytes.Equal(second, row(aDir())) {
		t.Errorf("R2: an answer is written to by way of another: % x", second)
	}
	for i, x := range whole {
		if x != 0xaa {
			t.Errorf("R2: an answer's byte %d, or its spare room, is written to by a later call", i)
		}
	}
}

func TestSameAnswers(t *testing.T) {
	for range 3 {
		encodes(t, aFile(), row(aFile()))
		encodesNone(t, api.Node{})
		decodes(t, row(aDir()), aDir())
		decodesNone(t, nil)
		if !node.Right(aFile()) || node.Right(api.Node{}) {
			t.Error("R4: Right answers otherwise than before")
		}
	}
}
