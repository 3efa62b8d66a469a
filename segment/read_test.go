package segment_test

import (
	"bytes"
	"cmp"
	"encoding/binary"
	"hash/crc32"
	"math"
	"math/rand"
	"slices"
	"testing"

	"permafrost/api"
	"permafrost/record"
	"permafrost/segment"
)

// readsNone wants that refusal, and nothing beside it.
func readsNone(t *testing.T, b []byte, want api.Errno) {
	t.Helper()
	h, l, why := segment.Read(b)
	if why != want || len(l) > 0 || !sameHead(h, segment.Head{}) {
		t.Errorf("P17.2: Read of %d bytes, %x: %v, %d records, %v, must be %v", len(b), b[:min(len(b), 130)], h, len(l), why, want)
	}
}

// changed is a segment of those records of which the head is not what it must
// be, but for its sum.
func changed(l []record.Record, change func(h *segment.Head)) []byte {
	h := headOf(4, l[0].Seq, prev(), l)
	change(&h)
	return laid(h, bytes.Join(rows(l), nil))
}

func TestReadOfOtherSizes(t *testing.T) {
	b := image(0, 1, prev(), few(1))
	for n := range size {
		readsNone(t, b[:n], api.ErrArg)
	}
	readsNone(t, nil, api.ErrArg)
	readsNone(t, append(bytes.Clone(b), 0), api.ErrArg)
	readsNone(t, append(bytes.Clone(b), b...), api.ErrArg)
	readsNone(t, make([]byte, 1<<17), api.ErrArg)
	h, l, why := segment.Read(roomy(b))
	if why != api.OK || !same(l, few(1)) || h.Count != 3 {
		t.Errorf("R5: Read of bytes with room behind: %v, %v", h, why)
	}
}

func TestSumOfAHead(t *testing.T) {
	b := image(7, 9, prev(), few(9))
	sum := crc32.ChecksumIEEE(b[:sumAt])
	for _, x := range []uint32{0, ^sum, sum + 1, math.MaxUint32, crc32.ChecksumIEEE(b[:sumAt-1]), crc32.ChecksumIEEE(b[1:sumAt]), crc32.ChecksumIEEE(b[headSize:])} {
		binary.BigEndian.PutUint32(b[sumAt:], x)
		readsNone(t, b, api.ErrSum)
	}
	binary.LittleEndian.PutUint32(b[sumAt:], sum)
	readsNone(t, b, api.ErrSum)
	for bit := range 32 {
		binary.BigEndian.PutUint32(b[sumAt:], sum^1<<bit)
		readsNone(t, b, api.ErrSum)
	}
	binary.BigEndian.PutUint32(b[sumAt:], sum)
	if _, _, why := segment.Read(b); why != api.OK {
		t.Errorf("P17.2: Read with its own sum: %v", why)
	}
}

func TestReadOfNoRecords(t *testing.T) {
	none := segment.Head{Prev: prev(), Root: prev(), First: 1}
	readsNone(t, laid(none, nil), api.ErrForm)
	none.Root = hash(nil) // of no leaves
	readsNone(t, laid(none, nil), api.ErrForm)
	readsNone(t, changed(few(1), func(h *segment.Head) { h.Count = 0 }), api.ErrForm)
	readsNone(t, changed(few(1), func(h *segment.Head) { h.Count, h.Bytes = 0, 0 }), api.ErrForm)
	readsNone(t, changed(marks(1, 1), func(h *segment.Head) { h.Count = 0 }), api.ErrForm)
}

// What is not read as a record counts as none, though a head and a Root may be
// made to tell of it: a record of noughts would have the Seq that comes first.
func TestReadOfWhatIsNoRecord(t *testing.T) {
	h := segment.Head{Count: 1, Prev: prev(), Root: root([][]byte{nil})}
	readsNone(t, laid(h, nil), api.ErrForm)
	h.Count, h.Root = 2, root([][]byte{nil, nil})
	readsNone(t, laid(h, nil), api.ErrForm)
	for n := 1; n <= 2*bare; n++ {
		h := segment.Head{Count: 1, Bytes: n, Prev: prev(), Root: root([][]byte{make([]byte, n)})}
		readsNone(t, laid(h, nil), api.ErrForm)
	}
}

func TestReadOfAnotherCount(t *testing.T) {
	for _, l := range [][]record.Record{few(1), marks(1, 1), marks(1, 62), ops(1, mostBody, 12), ops(1, 3, 4)} {
		for n := range 70 {
			if n != len(l) {
				readsNone(t, changed(l, func(h *segment.Head) { h.Count = n }), api.ErrForm)
			}
		}
		for _, n := range []int{255, 256, 256 + len(l), mostShort} {
			readsNone(t, changed(l, func(h *segment.Head) { h.Count = n }), api.ErrForm)
		}
	}
}

func TestReadOfOtherBytes(t *testing.T) {
	for _, l := range [][]record.Record{few(1), marks(1, 1), marks(1, 62), ops(1, mostBody, 12), ops(1, 3, 4)} {
		was := headOf(0, 1, prev(), l).Bytes
		for n := range size + 2 {
			if n != was {
				readsNone(t, changed(l, func(h *segment.Head) { h.Bytes = n }), api.ErrForm)
			}
		}
		for _, n := range []int{room + 1, size, 1 << 15, mostShort - headSize, mostShort} {
			readsNone(t, changed(l, func(h *segment.Head) { h.Bytes = n }), api.ErrForm)
		}
	}
}

// A head may tell of fewer records than stand there, and be right about their
// bytes and their Root: what is behind is then not noughts.
func TestReadOfLessThanStandsThere(t *testing.T) {
	l := few(1)
	for n := 1; n < len(l); n++ {
		h := headOf(4, 1, prev(), l[:n])
		readsNone(t, laid(h, bytes.Join(rows(l), nil)), api.ErrForm)
	}
}

func TestReadOfWhatIsNotNoughts(t *testing.T) {
	for _, l := range [][]record.Record{few(1), marks(1, 1), ops(1, mostBody)} {
		b := image(0, 1, prev(), l)
		for i := headSize + headOf(0, 1, prev(), l).Bytes; i < size; i++ {
			for _, x := range []byte{1, 2, 0x80, 0xff} {
				c := bytes.Clone(b)
				c[i] = x
				readsNone(t, c, api.ErrForm)
			}
		}
	}
}

func TestReadOfOtherSeqs(t *testing.T) {
	for _, first := range []uint64{0, 2, 5, lastTime, lastTime + 1, math.MaxUint64} {
		readsNone(t, changed(few(1), func(h *segment.Head) { h.First = first }), api.ErrForm)
	}
	for _, seqs := range [][]uint64{{1, 1}, {1, 3}, {1, 0}, {1, 2, 2}, {1, 2, 4}, {1, 3, 2}, {1, 2, lastTime}} {
		l := marks(1, len(seqs))
		for i, seq := range seqs {
			l[i].Seq = seq
		}
		readsNone(t, image(0, 1, prev(), l), api.ErrForm)
	}
	for _, first := range []uint64{lastTime + 1, math.MaxUint64} {
		readsNone(t, image(0, first, prev(), marks(first, 1)), api.ErrForm)
	}
	readsNone(t, image(0, lastTime, prev(), marks(lastTime, 2)), api.ErrForm)
	readsNone(t, image(0, math.MaxUint64, prev(), marks(math.MaxUint64, 2)), api.ErrForm)
}

func TestReadOfRecordsThatAreNotRight(t *testing.T) {
	for _, wrong := range []record.Record{
		{Kind: 0},
		{Kind: 3},
		{Kind: 255},
		{Kind: 0, Body: some(5)},
		{Kind: mark, Body: some(1)},
		{Kind: mark, Body: some(800)},
	} {
		for n := range 4 {
			l := slices.Concat(marks(1, n), []record.Record{wrong}, marks(0, 3-n))
			for i := range l {
				l[i].Seq = uint64(i + 1)
			}
			readsNone(t, image(0, 1, prev(), l), api.ErrForm)
		}
	}
	readsNone(t, image(0, 1, prev(), ops(1, mostBody+1)), api.ErrForm)
	readsNone(t, image(0, 1, prev(), ops(1, room-bare)), api.ErrForm)
}

// A record's own sum is asked, though the Root is right about its bytes.
func TestReadOfRecordsWithAnotherSum(t *testing.T) {
	l := few(1)
	for i := range l {
		all := rows(l)
		all[i][len(all[i])-1] ^= 1
		h := headOf(4, 1, prev(), l)
		h.Root = root(all)
		readsNone(t, laid(h, bytes.Join(all, nil)), api.ErrForm)
	}
}

// Records that take more than Room are not read on behind the segment's end.
func TestReadOfRecordsThatAreCutOff(t *testing.T) {
	l := ops(1, mostBody, mostBody)
	h := headOf(4, 1, prev(), l)
	for _, n := range []int{room, 2 * (bare + mostBody)} {
		h.Bytes = n
		readsNone(t, laid(h, bytes.Join(rows(l), nil)), api.ErrForm)
	}
}

func TestReadOfAnotherRoot(t *testing.T) {
	for _, l := range [][]record.Record{few(1), marks(1, 1), marks(1, 62), ops(1, mostBody, 12)} {
		for i := range hashSize {
			readsNone(t, changed(l, func(h *segment.Head) { h.Root[i] ^= 1 << (i % 8) }), api.ErrCorrupt)
		}
		readsNone(t, changed(l, func(h *segment.Head) { h.Root = make([]byte, hashSize) }), api.ErrCorrupt)
		readsNone(t, changed(l, func(h *segment.Head) { h.Root = hash(bytes.Join(rows(l), nil)) }), api.ErrCorrupt)
	}
}

// Records that are right by themselves are not read if they are not those of
// which the Root is.
func TestReadOfOtherRecords(t *testing.T) {
	h := headOf(4, 1, prev(), few(1))
	for i := range few(1) {
		l := few(1)
		if l[i].Kind == mark {
			l[i].Kind = op
		} else {
			l[i].Body[0] ^= 1
		}
		readsNone(t, laid(h, bytes.Join(rows(l), nil)), api.ErrCorrupt)
	}
}

// Where several refusals apply, the chapter names ErrSum ahead of ErrForm, and
// this ahead of ErrCorrupt.
func TestReadRefusesInOrder(t *testing.T) {
	b := changed(few(1), func(h *segment.Head) { h.Root, h.Count = prev(), 0 })
	readsNone(t, b, api.ErrForm)
	b[sumAt] ^= 1
	readsNone(t, b, api.ErrSum)
	readsNone(t, b[1:], api.ErrArg)
	b = changed(few(1), func(h *segment.Head) { h.Root = prev() })
	readsNone(t, b, api.ErrCorrupt)
	b[size-1] = 1
	readsNone(t, b, api.ErrForm)
	b[0] ^= 1
	readsNone(t, b, api.ErrSum)
}

// A head's Index and Prev may be any: what they must be is for who chains.
func TestReadAsksNoIndexAndNoPrev(t *testing.T) {
	for _, index := range []int{0, 1, 4095, mostShort} {
		for _, p := range [][]byte{make([]byte, hashSize), prev()} {
			h, l, why := segment.Read(image(index, 1, p, few(1)))
			if why != api.OK || h.Index != index || !bytes.Equal(h.Prev, p) || !same(l, few(1)) {
				t.Errorf("P17.2: Read: %v, %v", h, why)
			}
		}
	}
}

// turned holds every byte of a segment's image against the promise: where the
// bytes of a head and of its sum stand ErrSum is what is told.
func turned(t *testing.T, b []byte, masks []byte) {
	t.Helper()
	for i := range b {
		for _, mask := range masks {
			b[i] ^= mask
			h, l, why := segment.Read(b)
			b[i] ^= mask
			if why == api.OK || len(l) > 0 || !sameHead(h, segment.Head{}) {
				t.Fatalf("P17.4: byte %d turned by %x is read: %v, %v", i, mask, h, why)
			}
			if (why == api.ErrSum) != (i < headSize) {
				t.Fatalf("P17.2: byte %d turned by %x: %v", i, mask, why)
			}
		}
	}
}

func TestOneByteTurned(t *testing.T) {
	var all []byte
	for mask := 1; mask < 256; mask++ {
		all = append(all, byte(mask))
	}
	turned(t, image(2, 7, prev(), few(7)), all)
	bits := []byte{1, 2, 4, 8, 16, 32, 64, 128, 255}
	turned(t, image(0, 1, make([]byte, hashSize), marks(1, 1)), bits)
	turned(t, image(mostShort, lastTime-61, prev(), marks(lastTime-61, 62)), bits)
	turned(t, image(3, 1, prev(), ops(1, mostBody, 12)), bits)
	turned(t, image(3, 1, prev(), ops(1, 100, 0, 300, 256, 1)), bits)
}

// solved is an x with f(x) 0, where each bit of x turns the same bits of f(x)
// whatever the others are, as it is with sums of bytes.
func solved(f func(x uint64) uint32) (uint64, bool) {
	type line struct {
		sum  uint32
		bits uint64
	}
	var lines []line
	reduce := func(l line) line {
		for _, k := range lines {
			if l.sum^k.sum < l.sum {
				l.sum ^= k.sum
				l.bits ^= k.bits
			}
		}
		return l
	}
	for i := range 64 {
		if l := reduce(line{f(1<<i) ^ f(0), 1 << i}); l.sum != 0 {
			lines = append(lines, l)
			slices.SortFunc(lines, func(a, b line) int { return cmp.Compare(b.sum, a.sum) })
		}
	}
	l := reduce(line{f(0), 0})
	return l.bits, l.sum == 0
}

// twofold are two records that are two others when one byte of the first one's
// length is turned: its Body holds a record's end and another one's beginning.
// The bytes of x are free in either part of it, so that the other one can have
// the sum of the second.
func twofold(x uint64) (long, short []record.Record) {
	const longer, shorter, last = 0x60, 0x20, 20
	first := record.Record{Kind: op, Seq: 1, Body: binary.BigEndian.AppendUint32(some(shorter-4), uint32(x>>32))}
	second := record.Record{Kind: op, Seq: 2, Body: some(last)}
	end := row(first)[bare-4+shorter:]
	begun := binary.BigEndian.AppendUint64([]byte{op}, 2)
	begun = binary.BigEndian.AppendUint16(begun, longer-shorter-4-11+4+11+last)
	begun = binary.BigEndian.AppendUint32(begun, uint32(x))
	begun = append(begun, some(longer-shorter-4-len(begun))...)
	long = []record.Record{{Kind: op, Seq: 1, Body: slices.Concat(first.Body, end, begun)}, second}
	all := bytes.Join(rows(long), nil)
	return long, []record.Record{first, {Kind: op, Seq: 2, Body: all[len(row(first))+11 : len(all)-4]}}
}

// Of a Body's length that is turned a record's sum may tell nothing: the Root
// does.
func TestOneByteOfALengthTurned(t *testing.T) {
	sum := func(r record.Record) uint32 {
		b := row(r)
		return binary.BigEndian.Uint32(b[len(b)-4:])
	}
	x, ok := solved(func(x uint64) uint32 {
		long, short := twofold(x)
		return sum(long[1]) ^ sum(short[1])
	})
	if !ok {
		t.Fatal("no bytes have that sum")
	}
	long, short := twofold(x)
	b, c := bytes.Join(rows(long), nil), bytes.Join(rows(short), nil)
	if b[10] == c[10] || !bytes.Equal(b[:10], c[:10]) || !bytes.Equal(b[11:], c[11:]) {
		t.Fatal("it is not one byte of a length that is turned")
	}
	builds(t, 0, 1, prev(), long)
	builds(t, 0, 1, prev(), short)
	readsNone(t, laid(headOf(0, 1, prev(), long), c), api.ErrCorrupt)
}

// parsed reads by the chapter's sentences, in their order.
func parsed(b []byte) (segment.Head, []record.Record, api.Errno) {
	if len(b) != size {
		return segment.Head{}, nil, api.ErrArg
	}
	if crc32.ChecksumIEEE(b[:sumAt]) != binary.BigEndian.Uint32(b[sumAt:]) {
		return segment.Head{}, nil, api.ErrSum
	}
	short := func(at int) int { return int(binary.BigEndian.Uint16(b[at:])) }
	h := segment.Head{Index: short(0), First: binary.BigEndian.Uint64(b[2:]), Count: short(10), Bytes: short(12), Prev: b[14:46], Root: b[46:78]}
	if h.Count == 0 || h.Bytes > room {
		return segment.Head{}, nil, api.ErrForm
	}
	var l []record.Record
	at := headSize
	for i := range h.Count {
		r, n, why := record.Decode(b[at:])
		if why != api.OK || r.Seq != h.First+uint64(i) {
			return segment.Head{}, nil, api.ErrForm
		}
		l = append(l, r)
		at += n
	}
	if at != headSize+h.Bytes || len(bytes.Trim(b[at:], "\x00")) > 0 {
		return segment.Head{}, nil, api.ErrForm
	}
	if !bytes.Equal(root(rows(l)), h.Root) {
		return segment.Head{}, nil, api.ErrCorrupt
	}
	return h, l, api.OK
}

// drawn is a segment's image, right or a little wrong.
func drawn(r *rand.Rand) []byte {
	first := uint64(r.Intn(3)) * (lastTime / 2)
	l := marks(first, 1+r.Intn(4))
	for i := range l {
		if r.Intn(2) == 0 {
			l[i].Kind, l[i].Body = op, some(r.Intn(100))
		}
		if r.Intn(12) == 0 {
			l[i].Seq += uint64(r.Intn(3))
		}
	}
	h := headOf(r.Intn(1<<16), first, prev(), l)
	switch r.Intn(10) {
	case 0:
		h.Count += r.Intn(3) - 1
	case 1:
		h.Bytes += r.Intn(3) - 1
	case 2:
		h.Root[r.Intn(hashSize)] ^= byte(r.Intn(3))
	case 3:
		h.First += uint64(r.Intn(2))
	}
	b := laid(h, bytes.Join(rows(l), nil))
	switch r.Intn(8) {
	case 0:
		b[r.Intn(headSize)] ^= byte(r.Intn(256))
	case 1:
		b[headSize+r.Intn(h.Bytes+5)] ^= byte(r.Intn(256))
	case 2:
		b[size-1-r.Intn(400)] ^= byte(r.Intn(2))
	}
	return b
}

func TestReadOfAnyBytes(t *testing.T) {
	r := rand.New(rand.NewSource(4))
	count := map[api.Errno]int{}
	for range 40000 {
		b := drawn(r)
		h, l, why := segment.Read(b)
		x, m, want := parsed(b)
		count[want]++
		if why != want || !sameHead(h, x) || !same(l, m) {
			t.Fatalf("P17.2: Read of %x: %v, %d records, %v; must be %v, %d, %v", b, h, len(l), why, x, len(m), want)
		}
		if why != api.OK {
			continue
		}
		if again, no := segment.Build(h.Index, h.First, h.Prev, l); no != api.OK || !bytes.Equal(again, b) {
			t.Fatalf("P17.4: what is read of %x is built as %x, %v", b, again, no)
		}
	}
	for _, why := range []api.Errno{api.OK, api.ErrForm, api.ErrSum, api.ErrCorrupt} {
		if count[why] < 1000 {
			t.Errorf("%v was drawn %d times", why, count[why])
		}
	}
}

func TestReadOfBytesWithoutAPlan(t *testing.T) {
	r := rand.New(rand.NewSource(5))
	for range 20000 {
		b := make([]byte, size)
		r.Read(b)
		clear(b[:r.Intn(16)])
		if r.Intn(4) > 0 {
			binary.BigEndian.PutUint32(b[sumAt:], crc32.ChecksumIEEE(b[:sumAt]))
		}
		h, l, why := segment.Read(b)
		if x, m, want := parsed(b); why != want || !sameHead(h, x) || !same(l, m) {
			t.Fatalf("P17.2: Read of %x: %v, must be %v", b, why, want)
		}
	}
}

func TestReadChangesNothing(t *testing.T) {
	for _, change := range []func(h *segment.Head){
		func(h *segment.Head) {},
		func(h *segment.Head) { h.Root = prev() },
		func(h *segment.Head) { h.Count++ },
	} {
		b := roomy(changed(few(1), change))
		was := bytes.Clone(whole(b))
		segment.Read(b)
		if !bytes.Equal(whole(b), was) {
			t.Error("R2: Read changed what was handed in")
		}
	}
}

func TestWhatIsReadIsByItself(t *testing.T) {
	l := ops(1, 3, 40, 5)
	b := image(4, 1, prev(), l)
	h, got, _ := segment.Read(b)
	lists := [][]byte{h.Prev, h.Root}
	want := [][]byte{prev(), root(rows(l))}
	for i := range got {
		lists = append(lists, got[i].Body)
		want = append(want, l[i].Body)
	}
	clear(b)
	for i := range lists {
		if !bytes.Equal(lists[i], want[i]) {
			t.Errorf("R2: list %d shares memory with another one, or with what was handed in", i)
		}
		clear(whole(lists[i]))
	}
	b = image(4, 1, prev(), l)
	h, got, _ = segment.Read(b)
	clear(whole(h.Prev))
	clear(whole(h.Root))
	for i := range got {
		clear(whole(got[i].Body))
	}
	clear(got[:cap(got)])
	if !bytes.Equal(b, image(4, 1, prev(), l)) {
		t.Error("R2: an answer shares memory with what was handed in")
	}
	builds(t, 4, 1, prev(), l)
}

func TestNothingPanics(t *testing.T) {
	numbers := []int{math.MinInt, -1, 0, 1, 15, room, room + 1, size, mostShort, mostShort + 1, math.MaxInt}
	for _, x := range numbers {
		for _, y := range numbers {
			h := segment.Head{Index: x, First: uint64(y), Count: x, Bytes: y}
			segment.Seal(h)
			h.Prev, h.Root = prev(), prev()
			b := laid(h, bytes.Join(rows(few(uint64(y))), nil))
			if _, _, why := segment.Read(b); why == api.OK {
				t.Errorf("P17.2: Count %d, Bytes %d: it is read", x, y)
			}
			segment.Build(x, uint64(y), prev(), few(uint64(y)))
			segment.Build(x, uint64(y), nil, wrongs())
		}
	}
}
