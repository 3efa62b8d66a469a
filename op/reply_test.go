package op_test

import (
	"bytes"
	"encoding/binary"
	"math"
	"math/rand"
	"slices"
	"strings"
	"testing"

	"permafrost/api"
	"permafrost/node"
	"permafrost/op"
)

// What the table of limits and the chapter have.
const (
	mostByte = 255
	mostName = 16
	nodeSize = 16
)

// aFile and aDir are ordinary nodes.
func aFile() api.Node {
	return api.Node{ID: 258, Kind: api.File, Links: 772, Size: 1286, Until: 0x78090a0b0c, Closed: true}
}

func aDir() api.Node {
	return api.Node{ID: 7, Kind: api.Dir, Links: 1, Closed: true}
}

// fullReply is an ordinary reply in which no field is zero.
func fullReply() api.Reply {
	return api.Reply{Err: api.ErrKept, N: 0x0102, Data: []byte("data"), Names: []string{"a", "bc"}, Node: aFile()}
}

// with is r, changed.
func with(r api.Reply, change func(r *api.Reply)) api.Reply {
	change(&r)
	return r
}

// nodeRow are the bytes that a node has by its chapter, be it right or not.
func nodeRow(n api.Node) []byte {
	b := binary.BigEndian.AppendUint16(nil, uint16(n.ID))
	b = append(b, byte(n.Kind))
	b = binary.BigEndian.AppendUint16(b, uint16(n.Links))
	b = binary.BigEndian.AppendUint16(b, uint16(n.Size))
	b = binary.BigEndian.AppendUint64(b, n.Until)
	if n.Closed {
		return append(b, 1)
	}
	return append(b, 0)
}

// replyRow are the bytes that a reply has by the chapter, be it right or not.
func replyRow(r api.Reply) []byte {
	b := []byte{byte(r.Err), byte(r.N >> 8), byte(r.N)}
	b = append(b, list(r.Data)...)
	b = append(b, byte(len(r.Names)))
	for _, name := range r.Names {
		b = append(b, list([]byte(name))...)
	}
	if r.Node == (api.Node{}) {
		return append(b, 0)
	}
	return append(append(b, 1), list(nodeRow(r.Node))...)
}

// sameReply tells if both are one reply; no list and an empty one are the same.
func sameReply(a, b api.Reply) bool {
	return a.Err == b.Err && a.N == b.N && bytes.Equal(a.Data, b.Data) && slices.Equal(a.Names, b.Names) && a.Node == b.Node
}

// encodesReply holds what EncodeReply answers against the bytes that must be.
func encodesReply(t *testing.T, r api.Reply, want []byte) {
	t.Helper()
	got, why := op.EncodeReply(r)
	if why != api.OK || !bytes.Equal(got, want) {
		t.Errorf("P15.2: EncodeReply of Err %d, N %d: % x, %d, must be % x, 0", int(r.Err), r.N, brief(got), int(why), brief(want))
	}
}

// encodesNoReply holds that r is refused.
func encodesNoReply(t *testing.T, name string, r api.Reply) {
	t.Helper()
	got, why := op.EncodeReply(r)
	if why != api.ErrForm || len(got) != 0 {
		t.Errorf("P15.2: EncodeReply of %s: % x, %d, must be none, %d", name, brief(got), int(why), int(api.ErrForm))
	}
}

// decodesReply holds what DecodeReply answers against the reply that must be.
func decodesReply(t *testing.T, b []byte, want api.Reply) {
	t.Helper()
	got, why := op.DecodeReply(b)
	if why != api.OK || !sameReply(got, want) {
		t.Errorf("P15.2: DecodeReply(% x): Err %d, N %d, %d, must be Err %d, N %d, 0", brief(b), int(got.Err), got.N, int(why), int(want.Err), want.N)
	}
}

// decodesNoReply holds that b is refused.
func decodesNoReply(t *testing.T, b []byte) {
	t.Helper()
	got, why := op.DecodeReply(b)
	if why != api.ErrForm || !sameReply(got, api.Reply{}) {
		t.Errorf("P15.2: DecodeReply(% x): %+v, %d, must be none, %d", brief(b), got, int(why), int(api.ErrForm))
	}
}

// bothReply holds that r has its row, and that this is read as r.
func bothReply(t *testing.T, r api.Reply) {
	t.Helper()
	encodesReply(t, r, replyRow(r))
	decodesReply(t, replyRow(r), r)
}

func TestReplyWhereEachFieldStands(t *testing.T) {
	for _, c := range []struct {
		r    api.Reply
		want []byte
	}{
		{api.Reply{}, []byte{0, 0, 0, 0, 0, 0, 0}},
		{api.Reply{Err: api.ErrForm}, []byte{12, 0, 0, 0, 0, 0, 0}},
		{api.Reply{N: 0x0102}, []byte{0, 1, 2, 0, 0, 0, 0}},
		{api.Reply{N: 2, Data: []byte("xy")}, []byte{0, 0, 2, 0, 2, 'x', 'y', 0, 0}},
		{api.Reply{N: 2, Names: []string{"a", "bc"}}, []byte{0, 0, 2, 0, 0, 2, 0, 1, 'a', 0, 2, 'b', 'c', 0}},
		{api.Reply{Node: aDir()}, []byte{0, 0, 0, 0, 0, 0, 1, 0, 16, 0, 7, 2, 0, 1, 0, 0, 0, 0, 0, 0, 0, 0, 0, 0, 1}},
		{fullReply(), []byte{28, 1, 2, 0, 4, 'd', 'a', 't', 'a', 2, 0, 1, 'a', 0, 2, 'b', 'c', 1, 0, 16, 1, 2, 1, 3, 4, 5, 6, 0, 0, 0, 0x78, 9, 10, 11, 12, 1}},
	} {
		encodesReply(t, c.r, c.want)
		decodesReply(t, c.want, c.r)
	}
}

func TestReplyNumbersAtTheirEdges(t *testing.T) {
	for _, x := range []int{math.MinInt, math.MinInt32, -65535, -65536, -256, -255, -1, 0, 1, 2, 99, 254, 255, 256, 257, 511, 512, 65534, 65535, 65536, 65537, 1 << 31, 1 << 32, 1<<32 + 1, math.MaxInt} {
		for _, r := range []api.Reply{{}, fullReply()} {
			err := with(r, func(r *api.Reply) { r.Err = api.Errno(x) })
			if x >= 0 && x <= mostByte {
				bothReply(t, err)
			} else {
				encodesNoReply(t, "an Err that is no Byte", err)
			}
			n := with(r, func(r *api.Reply) { r.N = x })
			if x >= 0 && x <= mostShort {
				bothReply(t, n)
			} else {
				encodesNoReply(t, "an N that is no Short", n)
			}
		}
	}
}

func TestEveryNumberOfAReply(t *testing.T) {
	for x := range mostShort + 1 {
		bothReply(t, api.Reply{Err: api.Errno(x % 256), N: x})
		if t.Failed() {
			return
		}
	}
}

func TestReplyDataAtItsEdges(t *testing.T) {
	for _, size := range []int{0, 1, 255, 256, 600, 4096, 4097, 65534, 65535, 65536, 65537, 1 << 17, 1 << 20} {
		r := with(fullReply(), func(r *api.Reply) { r.Data = bytes.Repeat([]byte{7}, size) })
		if size <= mostShort {
			bothReply(t, r)
		} else {
			encodesNoReply(t, "long Data", r)
		}
	}
}

func TestHowManyNames(t *testing.T) {
	for _, count := range []int{0, 1, 2, 63, 64, 65, 254, 255, 256, 257, 511, 512, 65536} {
		for _, name := range []string{"", "a", "abcdefghijklmnop"} {
			r := with(fullReply(), func(r *api.Reply) { r.Names = slices.Repeat([]string{name}, count) })
			if count <= mostByte {
				bothReply(t, r)
			} else {
				encodesNoReply(t, "many Names", r)
			}
		}
	}
}

func TestNamesAtTheirEdges(t *testing.T) {
	for _, size := range []int{0, 1, 15, 16, 17, 18, 32, 255, 256, 65535, 65536, 65537, 65552} {
		name := strings.Repeat("n", size)
		for _, names := range [][]string{{name}, {name, "a"}, {"a", name}, {"a", name, "b"}} {
			r := with(fullReply(), func(r *api.Reply) { r.Names = names })
			if size <= mostName {
				bothReply(t, r)
			} else {
				encodesNoReply(t, "a long name", r)
			}
			if size > mostName && size <= mostShort {
				decodesNoReply(t, replyRow(r))
			}
		}
	}
	r := with(fullReply(), func(r *api.Reply) { r.Names = slices.Repeat([]string{"a"}, mostByte) })
	r.Names[mostByte-1] = strings.Repeat("n", mostName+1)
	encodesNoReply(t, "a long name in the end", r)
}

func TestNamesAreAnyBytesInAnyOrder(t *testing.T) {
	for x := range 256 {
		one := string([]byte{byte(x)})
		bothReply(t, api.Reply{Names: []string{one, "", one + "a" + one, "A/", one}, Data: []byte(one)})
	}
	bothReply(t, api.Reply{Names: []string{"b", "a", "b", "..", ".", "ä", "\xff\xfe"}})
}

func TestReplyNodes(t *testing.T) {
	for _, n := range []api.Node{
		aFile(), aDir(), {Kind: api.File}, {Kind: api.File, Closed: true}, {Kind: api.Dir, Closed: true}, {Kind: api.Dir, Links: 1, Closed: true},
		{ID: 65535, Kind: api.File, Links: 65535, Size: api.MaxFile, Until: api.MaxTime},
	} {
		bothReply(t, api.Reply{Node: n})
		bothReply(t, with(fullReply(), func(r *api.Reply) { r.Node = n }))
	}
	// What fields could be written, each in its bytes, is not read either.
	for _, n := range []api.Node{
		{ID: 1}, {Links: 1}, {Size: 1}, {Until: 1}, {Closed: true}, {Kind: 3}, {Kind: 255}, {Kind: api.Dir}, {Kind: api.Dir, Until: 1, Closed: true},
		{Kind: api.Dir, Size: 1, Closed: true}, {Kind: api.File, Size: api.MaxFile + 1}, {Kind: api.File, Until: api.MaxTime + 1},
	} {
		for _, r := range []api.Reply{{}, fullReply()} {
			r.Node = n
			encodesNoReply(t, "a Node that is not right", r)
			decodesNoReply(t, replyRow(r))
		}
	}
	for _, n := range []api.Node{
		{ID: -1, Kind: api.File}, {ID: 65536, Kind: api.File}, {Kind: -1}, {Kind: 257}, {Kind: api.File, Links: -1}, {Kind: api.File, Links: 65536}, {Kind: api.File, Size: -1},
	} {
		encodesNoReply(t, "a Node that has no room", api.Reply{Node: n})
		encodesNoReply(t, "a Node that has no room", with(fullReply(), func(r *api.Reply) { r.Node = n }))
	}
}

func TestDecodeReplyOfNodesThatAreNone(t *testing.T) {
	none := replyRow(api.Reply{})
	flag := len(none) - 1
	for x := range 256 {
		b := bytes.Clone(none)
		b[flag] = byte(x)
		if x == 0 {
			decodesReply(t, b, api.Reply{})
		} else {
			decodesNoReply(t, b)
		}
		b = append(b, list(nodeRow(aFile()))...)
		if x == 1 {
			decodesReply(t, b, api.Reply{Node: aFile()})
		} else {
			decodesNoReply(t, b)
		}
	}
	begun := append(bytes.Clone(none[:flag]), 1)
	for size := range 40 {
		n := append(nodeRow(aDir()), make([]byte, 40)...)[:size]
		b := append(bytes.Clone(begun), list(n)...)
		if size == nodeSize {
			decodesReply(t, b, api.Reply{Node: aDir()})
		} else {
			decodesNoReply(t, b)
		}
	}
	// A Node of noughts is zero, and would have another row.
	decodesNoReply(t, append(bytes.Clone(begun), list(make([]byte, nodeSize))...))
}

func TestDecodeReplyOfAnotherLength(t *testing.T) {
	decodesNoReply(t, nil)
	decodesNoReply(t, []byte{})
	for _, r := range []api.Reply{{}, fullReply(), {N: 4, Data: []byte("four")}, {Names: []string{"", "a"}}, {Node: aDir()}} {
		b := replyRow(r)
		for k := range b {
			// R5: the bytes that lack stand in the room behind, and are not read.
			decodesNoReply(t, b[:k])
			decodesNoReply(t, bytes.Clone(b[:k]))
		}
		decodesReply(t, append(bytes.Clone(b), 1, 2, 3)[:len(b)], r)
		for _, behind := range [][]byte{{0}, {1}, {255}, b, make([]byte, 1<<20)} {
			decodesNoReply(t, append(bytes.Clone(b), behind...))
		}
	}
	for k := range 64 {
		if k != 7 {
			decodesNoReply(t, make([]byte, k))
		}
		decodesNoReply(t, bytes.Repeat([]byte{255}, k))
	}
}

// parsedReply is the chapter's sentences on what bytes are read as, with all
// lengths asked by hand; false of what is none.
func parsedReply(b []byte) (api.Reply, bool) {
	ok := true
	take := func(n int) []byte {
		if ok = ok && n <= len(b); !ok {
			return make([]byte, 8)
		}
		piece := b[:n]
		b = b[n:]
		return piece
	}
	piece := func() []byte { return bytes.Clone(take(int(binary.BigEndian.Uint16(take(2))))) }
	r := api.Reply{Err: api.Errno(take(1)[0])}
	r.N = int(binary.BigEndian.Uint16(take(2)))
	r.Data = piece()
	for range int(take(1)[0]) {
		name := piece()
		ok = ok && len(name) <= mostName
		r.Names = append(r.Names, string(name))
	}
	switch flag := take(1)[0]; {
	case flag == 1:
		n, why := node.Decode(piece())
		ok = ok && why == api.OK
		r.Node = n
	case flag > 1:
		ok = false
	}
	return r, ok && len(b) == 0
}

// readsReply holds DecodeReply against the chapter's sentences, and that no two
// rows of bytes are one reply.
func readsReply(t *testing.T, b []byte) bool {
	t.Helper()
	want, ok := parsedReply(b)
	if !ok {
		decodesNoReply(t, b)
		return false
	}
	decodesReply(t, b, want)
	encodesReply(t, want, b)
	return true
}

func TestOneByteOfAReplyTurned(t *testing.T) {
	for _, r := range []api.Reply{{}, fullReply(), {N: 4, Data: []byte("four")}, {Names: []string{"", "a"}}, {Node: aDir()}, {Node: api.Node{Kind: api.File}}} {
		for at := range replyRow(r) {
			for x := range 256 {
				b := replyRow(r)
				b[at] = byte(x)
				readsReply(t, b)
				readsReply(t, append(b, 0, 0))
			}
			if t.Failed() {
				return
			}
		}
	}
}

// drawnReply are bytes that are a reply's, or nearly.
func drawnReply(r *rand.Rand) []byte {
	x := api.Reply{Err: api.Errno(r.Intn(mostByte + 1)), N: r.Intn(mostShort + 1), Data: make([]byte, r.Intn(4)*r.Intn(90))}
	r.Read(x.Data)
	for range r.Intn(3) * r.Intn(4) {
		x.Names = append(x.Names, strings.Repeat("n", r.Intn(mostName+1)))
	}
	if r.Intn(2) == 0 {
		x.Node = api.Node{ID: r.Intn(mostShort + 1), Kind: api.File, Links: r.Intn(9), Size: r.Intn(api.MaxFile + 1), Until: r.Uint64() >> (23 + r.Intn(41)), Closed: r.Intn(2) == 0}
	}
	b := replyRow(x)
	switch r.Intn(6) {
	case 0:
		b = b[:r.Intn(len(b)+1)]
	case 1:
		b = append(b, byte(r.Intn(2)))
	case 2:
		b[r.Intn(len(b))] = byte(r.Intn(256))
	}
	return b
}

func TestAnyBytesOfAReply(t *testing.T) {
	r := rand.New(rand.NewSource(16))
	read := 0
	for range 60000 {
		if readsReply(t, drawnReply(r)) {
			read++
		}
		b := make([]byte, r.Intn(24))
		r.Read(b)
		for i := range b {
			b[i] %= 3
		}
		readsReply(t, b)
		if t.Failed() {
			return
		}
	}
	if read < 20000 {
		t.Errorf("only %d read", read)
	}
}

func TestWhatIsHandedInStaysOfAReply(t *testing.T) {
	room := append(replyRow(fullReply()), 1, 2, 3, 4)
	want := bytes.Clone(room)
	for k := range len(room) + 1 {
		op.DecodeReply(room[:k])
		if !bytes.Equal(room, want) {
			t.Fatalf("R2: DecodeReply of %d bytes changed them, or the room behind them", k)
		}
	}
	data, names := []byte("data and room"), []string{"a", "b", "c", "d"}
	for k := range len(names) + 1 {
		op.EncodeReply(api.Reply{Data: data[:k], Names: names[:k], Node: aDir()})
		if string(data) != "data and room" || !slices.Equal(names, []string{"a", "b", "c", "d"}) {
			t.Fatalf("R2: EncodeReply of lists of %d changed them, or the room behind them", k)
		}
	}
}

func TestAnswersAreNewOfAReply(t *testing.T) {
	r := fullReply()
	a, _ := op.EncodeReply(r)
	again, _ := op.EncodeReply(r)
	clear(a[:cap(a)])
	if !sameReply(r, fullReply()) || !bytes.Equal(again, replyRow(r)) {
		t.Error("R2: EncodeReply's answer shares memory with another")
	}
	b := replyRow(r)
	x, _ := op.DecodeReply(b)
	y, _ := op.DecodeReply(b)
	clear(x.Data[:cap(x.Data)])
	clear(x.Names[:cap(x.Names)])
	if !bytes.Equal(b, replyRow(r)) || !sameReply(y, r) {
		t.Error("R2: DecodeReply's answer shares memory with another")
	}
	clear(b)
	if !sameReply(y, r) {
		t.Error("R2: DecodeReply keeps what was handed in")
	}
}

func TestNilAndEmptyMeanTheSameInAReply(t *testing.T) {
	want := []byte{0, 0, 0, 0, 0, 0, 0}
	encodesReply(t, api.Reply{Data: []byte{}, Names: []string{}}, want)
	encodesReply(t, api.Reply{Data: []byte("room")[:0], Names: []string{"room"}[:0]}, want)
	decodesReply(t, want, api.Reply{})
}
