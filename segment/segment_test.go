package segment_test

import (
	"bytes"
	"crypto/sha256"
	"encoding/binary"
	"encoding/hex"
	"hash/crc32"
	"math"
	"math/rand"
	"slices"
	"testing"

	"permafrost/api"
	"permafrost/record"
	"permafrost/segment"
)

// What the tables of limits and the chapters have.
const (
	size      = 1024
	room      = 942
	headSize  = 82
	sumAt     = 78
	hashSize  = 32
	mostBody  = 900
	mostShort = 65535
	lastTime  = 1 << 40
	bare      = 15 // bytes of a record without a Body
	op        = 1
	mark      = 2
)

// row is how r stands in a segment, be it right or not.
func row(r record.Record) []byte {
	b := binary.BigEndian.AppendUint64([]byte{byte(r.Kind)}, r.Seq)
	b = binary.BigEndian.AppendUint16(b, uint16(len(r.Body)))
	return summed(append(b, r.Body...))
}

// rows are those of l, each by itself.
func rows(l []record.Record) [][]byte {
	var all [][]byte
	for _, r := range l {
		all = append(all, row(r))
	}
	return all
}

// summed is b, and its sum behind it.
func summed(b []byte) []byte {
	return binary.BigEndian.AppendUint32(bytes.Clone(b), crc32.ChecksumIEEE(b))
}

// root is the hash of a tree, made from the foot up: two by two, and the last
// one as it is if it stands alone.
func root(leaves [][]byte) []byte {
	var floor [][]byte
	for _, b := range leaves {
		floor = append(floor, hash(append([]byte{0}, b...)))
	}
	for len(floor) > 1 {
		var above [][]byte
		for pair := range slices.Chunk(floor, 2) {
			if len(pair) == 2 {
				pair = [][]byte{hash(slices.Concat([]byte{1}, pair[0], pair[1]))}
			}
			above = append(above, pair[0])
		}
		floor = above
	}
	return floor[0]
}

// hash is SHA-256, by another's means.
func hash(b []byte) []byte {
	h := sha256.Sum256(b)
	return h[:]
}

// fields are those of a head, be they right or not.
func fields(h segment.Head) []byte {
	b := binary.BigEndian.AppendUint16(nil, uint16(h.Index))
	b = binary.BigEndian.AppendUint64(b, h.First)
	b = binary.BigEndian.AppendUint16(b, uint16(h.Count))
	b = binary.BigEndian.AppendUint16(b, uint16(h.Bytes))
	return slices.Concat(b, h.Prev, h.Root)
}

// laid are the bytes of a segment with that head and with behind behind it,
// be they right or not.
func laid(h segment.Head, behind []byte) []byte {
	b := make([]byte, size)
	copy(b[copy(b, summed(fields(h))):], behind)
	return b
}

// headOf is what stands ahead of l.
func headOf(index int, first uint64, prev []byte, l []record.Record) segment.Head {
	all := rows(l)
	return segment.Head{Index: index, First: first, Count: len(l), Bytes: len(bytes.Join(all, nil)), Prev: prev, Root: root(all)}
}

// image is what Build must answer.
func image(index int, first uint64, prev []byte, l []record.Record) []byte {
	return laid(headOf(index, first, prev, l), bytes.Join(rows(l), nil))
}

// some are n bytes, no two neighbours the same.
func some(n int) []byte {
	b := make([]byte, n)
	for i := range b {
		b[i] = byte(i*7 + 1)
	}
	return b
}

// prev is an ordinary hash.
func prev() []byte {
	return some(hashSize)
}

// ops are records of operations with Bodies of so many bytes.
func ops(first uint64, bodies ...int) []record.Record {
	var l []record.Record
	for i, n := range bodies {
		l = append(l, record.Record{Kind: op, Seq: first + uint64(i), Body: some(n)})
	}
	return l
}

// marks are n records without a Body.
func marks(first uint64, n int) []record.Record {
	var l []record.Record
	for i := range n {
		l = append(l, record.Record{Kind: mark, Seq: first + uint64(i)})
	}
	return l
}

// few are three ordinary records.
func few(first uint64) []record.Record {
	l := ops(first, 3, 0, 40)
	l[1].Kind = mark
	return l
}

// wrongs are records that are not right.
func wrongs() []record.Record {
	return []record.Record{
		{},
		{Kind: 3},
		{Kind: -1},
		{Kind: 257},
		{Kind: op, Seq: lastTime + 1},
		{Kind: mark, Seq: math.MaxUint64},
		{Kind: mark, Body: some(1)},
		{Kind: op, Body: some(mostBody + 1)},
		{Kind: op, Body: some(1 << 17)},
	}
}

// same tells if two lists of records say the same.
func same(a, b []record.Record) bool {
	return slices.EqualFunc(a, b, func(a, b record.Record) bool {
		return a.Kind == b.Kind && a.Seq == b.Seq && bytes.Equal(a.Body, b.Body)
	})
}

// sameHead tells if two heads say the same.
func sameHead(a, b segment.Head) bool {
	return a.Index == b.Index && a.First == b.First && a.Count == b.Count && a.Bytes == b.Bytes && bytes.Equal(a.Prev, b.Prev) && bytes.Equal(a.Root, b.Root)
}

// builds holds Build against the chapter, and Read against what was built.
func builds(t *testing.T, index int, first uint64, prev []byte, l []record.Record) {
	t.Helper()
	want := image(index, first, prev, l)
	b, why := segment.Build(index, first, prev, l)
	if why != api.OK || !bytes.Equal(b, want) {
		t.Errorf("P17.2: Build(%d, %d) of %d records: %x, %v, must be %x", index, first, len(l), b, why, want)
	}
	h, got, why := segment.Read(want)
	if why != api.OK || !same(got, l) || !sameHead(h, headOf(index, first, prev, l)) {
		t.Errorf("P17.2, P17.4: Read of what is built at %d, %d of %d records: %v, %d records, %v", index, first, len(l), h, len(got), why)
	}
}

// buildsNone wants that refusal, and nothing beside it.
func buildsNone(t *testing.T, index int, first uint64, prev []byte, l []record.Record, want api.Errno) {
	t.Helper()
	if b, why := segment.Build(index, first, prev, l); why != want || len(b) > 0 {
		t.Errorf("P17.2: Build(%d, %d, %d bytes) of %d records: %d bytes, %v, must be %v", index, first, len(prev), len(l), len(b), why, want)
	}
}

// fits wants so many of l.
func fits(t *testing.T, l []record.Record, want int) {
	t.Helper()
	if got := segment.Fits(l); got != want {
		t.Errorf("P17.1: Fits of %d records: %d, must be %d", len(l), got, want)
	}
}

func TestNumbers(t *testing.T) {
	if segment.Size != size || segment.Room != room {
		t.Errorf("P17.1: %d, %d", segment.Size, segment.Room)
	}
}

func TestRuns(t *testing.T) {
	b, why := segment.Build(0, 1, prev(), []record.Record{{Kind: record.Mark, Seq: 1}})
	if len(b) != segment.Size || why != api.OK {
		t.Errorf("P17.2: Build of one Mark: %d bytes, %v", len(b), why)
	}
}

func TestExamples(t *testing.T) {
	buildsNone(t, 0, 1, prev(), nil, api.ErrArg)
	buildsNone(t, 0, 1, prev(), []record.Record{}, api.ErrArg)
	readsNone(t, make([]byte, size), api.ErrSum)
}

// The hashes and sums were worked out apart from this program.
func TestRowsOfBytes(t *testing.T) {
	count := make([]byte, hashSize)
	for i := range count {
		count[i] = byte(i + 1)
	}
	three := []record.Record{{Kind: op, Seq: 0x0203040506, Body: []byte{8, 9, 10}}, {Kind: mark, Seq: 0x0203040507}, {Kind: op, Seq: 0x0203040508}}
	for _, c := range []struct {
		index      int
		first      uint64
		prev       []byte
		l          []record.Record
		want, seal string
	}{
		{0, 1, make([]byte, hashSize), marks(1, 1),
			"0000" + "0000000000000001" + "0001" + "000f" + "0000000000000000000000000000000000000000000000000000000000000000" + "d075f95b63574c90928462ba34736f66d501a5e7251f0194d3570238613562a3" + "562ba07a" + "02000000000000000100003229621a",
			"cb298e6556620e1deb9ae8fd03d1f41eaec177642fa91cca084e5281663b4636"},
		{0x1234, 0x0203040506, count, three,
			"1234" + "0000000203040506" + "0003" + "0030" + "0102030405060708090a0b0c0d0e0f101112131415161718191a1b1c1d1e1f20" + "4cbfdf73147c5cfe1f73d2ae406f71e8f74c7beb9841e62dff8db3523ca6b905" + "7cb8efb2" + "010000000203040506000308090a5c561a08" + "0200000002030405070000e5f12bdd" + "0100000002030405080000774f0ae1",
			"5908262bd861778a6b4da35438e47eefb11222a4da69f09abee92fcb46e0f721"},
	} {
		want, _ := hex.DecodeString(c.want)
		want = append(want, make([]byte, size-len(want))...)
		b, why := segment.Build(c.index, c.first, c.prev, c.l)
		if !bytes.Equal(b, want) || why != api.OK {
			t.Errorf("P17.2: Build(%d, %d): %x, %v, must be %x", c.index, c.first, b, why, want)
		}
		h, l, why := segment.Read(want)
		if !same(l, c.l) || why != api.OK {
			t.Errorf("P17.2: Read: %v, %v", l, why)
		}
		if got := hex.EncodeToString(segment.Seal(h)); got != c.seal {
			t.Errorf("P17.3: Seal: %s, must be %s", got, c.seal)
		}
	}
}

func TestFits(t *testing.T) {
	fits(t, nil, 0)
	fits(t, []record.Record{}, 0)
	fits(t, few(1), 3)
	fits(t, ops(1, mostBody), 1)
	for n := range 100 {
		fits(t, marks(1, n), min(n, room/bare))
		fits(t, marks(lastTime-uint64(n)+1, n), min(n, room/bare))
	}
}

// What Seqs records have, and in which order, is no matter here.
func TestFitsAsksNoSeqs(t *testing.T) {
	fits(t, []record.Record{{Kind: op, Seq: 9}, {Kind: mark, Seq: 9}, {Kind: op, Seq: 0}, {Kind: op, Seq: lastTime}}, 4)
}

func TestFitsAtTheEdgeOfRoom(t *testing.T) {
	for n := range mostBody + 1 {
		left := room - bare - n - bare // for the second one's Body
		if left < 0 || left > mostBody {
			continue
		}
		fits(t, ops(1, n, left), 2)
		fits(t, ops(1, n, left, 0), 2)
		if left > 0 {
			fits(t, ops(1, n, left-1), 2)
		}
		if left < mostBody {
			fits(t, ops(1, n, left+1), 1)
			fits(t, ops(1, n, left+1, 0), 1)
		}
	}
	fits(t, ops(1, mostBody, 12), 2)
	fits(t, ops(1, mostBody, 13), 1)
	fits(t, append(ops(1, 12), marks(2, 61)...), 62)
	fits(t, append(ops(1, 13), marks(2, 61)...), 61)
}

// It is the first ones that are told: what would have room behind one that has
// none is not counted.
func TestFitsEndsAtTheFirstWithoutRoom(t *testing.T) {
	l := append(ops(1, 500, 500), marks(3, 5)...)
	fits(t, l, 1)
	fits(t, append(marks(1, 2), ops(3, mostBody, 0, 0)...), 2)
}

func TestFitsEndsAtWhatIsNotRight(t *testing.T) {
	for _, wrong := range wrongs() {
		for n := range 5 {
			l := append(marks(1, n), wrong)
			fits(t, l, n)
			fits(t, append(l, marks(1, 3)...), n)
		}
	}
}

func TestLeaves(t *testing.T) {
	for _, l := range [][]record.Record{nil, {}, few(1), marks(7, 100), ops(0, mostBody, mostBody, mostBody), ops(lastTime, 5)} {
		if got := segment.Leaves(l); !slices.EqualFunc(got, rows(l), bytes.Equal) {
			t.Errorf("P17.1: Leaves of %d records: %x", len(l), got)
		}
	}
}

func TestLeavesOfWhatIsRefused(t *testing.T) {
	for _, wrong := range wrongs() {
		l := []record.Record{few(1)[0], wrong, few(1)[2], wrong}
		want := [][]byte{row(l[0]), nil, row(l[2]), nil}
		if got := segment.Leaves(l); !slices.EqualFunc(got, want, bytes.Equal) {
			t.Errorf("P17.1: Leaves beside %d, %d: %x", wrong.Kind, wrong.Seq, got)
		}
	}
}

func TestBuildOfEachIndex(t *testing.T) {
	for _, index := range []int{0, 1, 255, 256, 4095, 65534, 65535} {
		builds(t, index, 1, prev(), few(1))
	}
	for _, index := range []int{math.MinInt, -65536, -65535, -1, 65536, 65537, 1 << 32, math.MaxInt} {
		buildsNone(t, index, 1, prev(), few(1), api.ErrArg)
	}
}

func TestBuildOfEachFirst(t *testing.T) {
	for _, first := range []uint64{0, 1, 2, 255, 256, 1 << 32, lastTime - 2} {
		builds(t, 3, first, prev(), few(first))
	}
	builds(t, 3, lastTime, prev(), marks(lastTime, 1))
	builds(t, 3, lastTime, make([]byte, hashSize), ops(lastTime, mostBody))
	builds(t, 3, lastTime-1, prev(), marks(lastTime-1, 2))
	for _, first := range []uint64{lastTime + 1, lastTime + 2, 2 * lastTime, 1 << 63, math.MaxUint64} {
		buildsNone(t, 3, first, prev(), few(first), api.ErrArg)
		buildsNone(t, 3, first, prev(), few(1), api.ErrArg)
		buildsNone(t, 3, first, prev(), marks(0, 2), api.ErrArg)
	}
}

func TestBuildOfEachPrev(t *testing.T) {
	builds(t, 1, 1, make([]byte, hashSize), few(1))
	builds(t, 1, 1, bytes.Repeat([]byte{0xff}, hashSize), few(1))
	for n := range 100 {
		if n != hashSize {
			buildsNone(t, 1, 1, some(n), few(1), api.ErrArg)
		}
	}
	buildsNone(t, 1, 1, nil, few(1), api.ErrArg)
	buildsNone(t, 1, 1, some(2 * hashSize)[:hashSize-1], few(1), api.ErrArg)
}

func TestBuildOfEachCount(t *testing.T) {
	for n := 1; n <= room/bare; n++ {
		builds(t, n, 5, prev(), marks(5, n))
	}
	for n := room/bare + 1; n < 80; n++ {
		buildsNone(t, n, 5, prev(), marks(5, n), api.ErrArg)
	}
}

func TestBuildOfEachBody(t *testing.T) {
	for n := range mostBody + 1 {
		builds(t, 9, 5, prev(), ops(5, n))
		if left := room - 2*bare - n; left >= 0 && left <= mostBody {
			builds(t, 9, 5, prev(), ops(5, n, left))
			buildsNone(t, 9, 5, prev(), append(ops(5, n, left), marks(7, 1)...), api.ErrArg)
		}
		if left := room - 2*bare - n + 1; left >= 0 && left <= mostBody {
			buildsNone(t, 9, 5, prev(), ops(5, n, left), api.ErrArg)
		}
	}
}

func TestBuildOfWhatIsNotRight(t *testing.T) {
	for _, wrong := range wrongs() {
		buildsNone(t, 0, wrong.Seq, prev(), []record.Record{wrong}, api.ErrArg)
		l := append(few(1), wrong)
		l[3].Seq = 4
		if !record.Right(l[3]) {
			buildsNone(t, 0, 1, prev(), l, api.ErrArg)
		}
	}
	buildsNone(t, 0, lastTime, prev(), marks(lastTime, 2), api.ErrArg)
}

func TestBuildOfSeqsThatAreNotOn(t *testing.T) {
	for _, seqs := range [][]uint64{{0}, {2}, {lastTime}, {1, 1}, {1, 3}, {1, 0}, {2, 3}, {0, 1}, {1, 2, 2}, {1, 2, 4}, {1, 3, 2}, {3, 2, 1}, {1, 2, 3, 5}, {1, 2, 3, 4, lastTime}} {
		l := marks(0, len(seqs))
		for i, seq := range seqs {
			l[i].Seq = seq
		}
		buildsNone(t, 0, 1, prev(), l, api.ErrForm)
		buildsNone(t, mostShort, 1, prev(), l, api.ErrForm)
	}
}

// ErrArg stands first, wherever in the list it is.
func TestBuildRefusesInOrder(t *testing.T) {
	on := few(2)
	buildsNone(t, 0, 1, prev(), on, api.ErrForm)
	buildsNone(t, -1, 1, prev(), on, api.ErrArg)
	buildsNone(t, 0, lastTime+1, prev(), on, api.ErrArg)
	buildsNone(t, 0, 1, nil, on, api.ErrArg)
	for _, wrong := range wrongs() {
		buildsNone(t, 0, 1, prev(), append(few(2), wrong), api.ErrArg)
	}
	buildsNone(t, 0, 1, prev(), ops(2, mostBody, mostBody), api.ErrArg)
}

// sealed is the chapter's sentence on Seal.
func sealed(h segment.Head) []byte {
	for _, b := range []*[]byte{&h.Prev, &h.Root} {
		if len(*b) != hashSize {
			*b = make([]byte, hashSize)
		}
	}
	all := fields(h)
	return hash(slices.Concat([]byte{2}, all[:12], all[14:]))
}

// seals wants what the chapter says.
func seals(t *testing.T, h segment.Head) {
	t.Helper()
	if got := segment.Seal(h); !bytes.Equal(got, sealed(h)) {
		t.Errorf("P17.3: Seal of %v: %x, must be %x", h, got, sealed(h))
	}
}

func TestSeal(t *testing.T) {
	if got := hex.EncodeToString(segment.Seal(segment.Head{})); got != "f3c1117bfae3e1a45f826c7844ea053772758175fdead853c79842908e24eceb" {
		t.Errorf("P17.3: Seal of noughts: %s", got)
	}
	h := headOf(5, 1<<33+7, prev(), few(1<<33+7))
	seals(t, h)
	for _, n := range []int{math.MinInt, -65537, -1, 0, 1, 255, 256, 65535, 65536, 65537, math.MaxInt} {
		x, y, z := h, h, h
		x.Index, y.Count, z.Bytes = n, n, n
		seals(t, x)
		seals(t, y)
		if !bytes.Equal(segment.Seal(z), sealed(h)) {
			t.Errorf("P17.3: Bytes %d: another Seal", n)
		}
	}
	for _, n := range []uint64{0, 1, 256, 1 << 32, lastTime, lastTime + 1, math.MaxUint64} {
		x := h
		x.First = n
		seals(t, x)
	}
}

func TestSealOfWhatIsNoHash(t *testing.T) {
	h := headOf(5, 9, prev(), few(9))
	for n := range 100 {
		x, y, z := h, h, h
		x.Prev, y.Root = some(n), some(n)
		z.Prev, z.Root = some(n), some(2*hashSize-n%65)
		seals(t, x)
		seals(t, y)
		seals(t, z)
	}
	for _, b := range [][]byte{nil, {}, some(2 * hashSize)[:0], some(2 * hashSize)[:hashSize-1], some(2 * hashSize)[:hashSize]} {
		x, y := h, h
		x.Prev, y.Root = b, b
		seals(t, x)
		seals(t, y)
	}
}

// Each field has its place: what is turned anywhere is another Seal.
func TestSealOfAnother(t *testing.T) {
	h := headOf(5, 9, prev(), few(9))
	was := segment.Seal(h)
	for i := range hashSize {
		x, y := h, h
		x.Prev, y.Root = bytes.Clone(h.Prev), bytes.Clone(h.Root)
		x.Prev[i] ^= 1
		y.Root[i] ^= 1
		for _, h := range []segment.Head{x, y} {
			seals(t, h)
			if bytes.Equal(segment.Seal(h), was) {
				t.Errorf("P17.3: byte %d of a hash is turned: the same Seal", i)
			}
		}
	}
	x := h
	x.Prev, x.Root = h.Root, h.Prev
	seals(t, x)
}

// roomy is b with noise in its spare room.
func roomy(b []byte) []byte {
	return slices.Concat(b, some(50))[:len(b)]
}

// whole is b with its spare room.
func whole(b []byte) []byte {
	return b[:cap(b)]
}

// given are records and a hash with noise in their spare room.
func given() ([]byte, []record.Record) {
	l := append(few(1), wrongs()...)[:3]
	for i := range l {
		l[i].Body = roomy(l[i].Body)
	}
	return roomy(prev()), l
}

func TestWhatIsHandedInIsNotChanged(t *testing.T) {
	before, l := given()
	h := headOf(1, 1, before, l)
	h.Root = roomy(h.Root)
	segment.Build(1, 1, before, l)
	segment.Build(1, 2, before, l)
	segment.Fits(l)
	segment.Leaves(l)
	segment.Seal(h)
	p, m := given()
	if !bytes.Equal(whole(before), whole(p)) || !same(l[:cap(l)], m[:cap(m)]) {
		t.Error("R2: what was handed in is changed")
	}
	for i := range l {
		if !bytes.Equal(whole(l[i].Body), whole(m[i].Body)) {
			t.Error("R2: a Body that was handed in is changed")
		}
	}
	if !bytes.Equal(whole(h.Root), whole(roomy(root(rows(m))))) {
		t.Error("R2: a head that was handed in is changed")
	}
}

// What stands behind a list's length is not read: R5.
func TestSpareRoomIsNotRead(t *testing.T) {
	p, l := given()
	builds(t, 1, 1, p, l)
	fits(t, l, 3)
	fits(t, l[:0], 0)
	buildsNone(t, 1, 1, p, l[:0], api.ErrArg)
	if got := segment.Leaves(l[:1]); len(got) != 1 {
		t.Errorf("R5: Leaves of one: %d", len(got))
	}
}

func TestAnswersAreByThemselves(t *testing.T) {
	p, l := given()
	b, _ := segment.Build(1, 1, p, l)
	c, _ := segment.Build(1, 1, p, l)
	leaves := segment.Leaves(l)
	h := headOf(1, 1, p, l)
	s := segment.Seal(h)
	clear(whole(b))
	clear(whole(s))
	for i := range leaves {
		clear(whole(leaves[i]))
		if i+1 < len(leaves) && !bytes.Equal(leaves[i+1], row(l[i+1])) {
			t.Errorf("R2: leaf %d shares memory with the one behind it", i)
		}
	}
	if !bytes.Equal(c, image(1, 1, p, l)) {
		t.Error("R2: two answers of Build share memory")
	}
	q, m := given()
	if !bytes.Equal(p, q) || !same(l, m) {
		t.Error("R2: an answer shares memory with what was handed in")
	}
	builds(t, 1, 1, p, l)
	seals(t, h)
}

// drawnList are a few records, right or a little wrong.
func drawnList(r *rand.Rand) []record.Record {
	var l []record.Record
	for range r.Intn(8) {
		x := record.Record{Kind: 1 + r.Intn(2), Seq: uint64(r.Intn(3)) * (lastTime / 2)}
		if x.Kind == op {
			x.Body = some(r.Intn(500))
		}
		switch r.Intn(20) {
		case 0:
			x.Kind = r.Intn(4)
		case 1:
			x.Seq++
		case 2:
			x.Body = some(r.Intn(1000))
		}
		l = append(l, x)
	}
	return l
}

func TestFitsOfAnyRecords(t *testing.T) {
	r := rand.New(rand.NewSource(3))
	for range 20000 {
		l := drawnList(r)
		want, all := 0, 0
		for _, x := range l {
			all += len(row(x))
			if !record.Right(x) || all > room {
				break
			}
			want++
		}
		fits(t, l, want)
	}
}
