package record_test

import (
	"bytes"
	"encoding/binary"
	"encoding/hex"
	"hash/crc32"
	"math"
	"math/rand"
	"testing"

	"permafrost/api"
	"permafrost/record"
)

// What the table of limits and the chapter have.
const (
	mostBody  = 900
	mostShort = 65535
	lastTime  = 1 << 40
	op        = 1
	mark      = 2
	headSize  = 11
	sumSize   = 4
	lengthAt  = 9
)

// unsummed are the bytes that fields have by the chapter, be they Right or not.
func unsummed(r record.Record) []byte {
	b := binary.BigEndian.AppendUint64([]byte{byte(r.Kind)}, r.Seq)
	b = binary.BigEndian.AppendUint16(b, uint16(len(r.Body)))
	return append(b, r.Body...)
}

// summed is b, and its sum behind it.
func summed(b []byte) []byte {
	return binary.BigEndian.AppendUint32(bytes.Clone(b), crc32.ChecksumIEEE(b))
}

// row is how r stands in the log, be it Right or not.
func row(r record.Record) []byte {
	return summed(unsummed(r))
}

// some are n bytes, no two neighbours the same.
func some(n int) []byte {
	b := make([]byte, n)
	for i := range b {
		b[i] = byte(i*7 + 1)
	}
	return b
}

// anOp is an ordinary record of an operation.
func anOp() record.Record {
	return record.Record{Kind: op, Seq: 0x0203040506, Body: []byte{8, 9, 10}}
}

// aMark is an ordinary mark.
func aMark() record.Record {
	return record.Record{Kind: mark, Seq: 7}
}

// with is r, changed.
func with(r record.Record, change func(r *record.Record)) record.Record {
	change(&r)
	return r
}

// times are numbers about the edges of MaxTime.
func times() []uint64 {
	return []uint64{0, 1, 2, 255, 256, 1 << 32, lastTime - 1, lastTime, lastTime + 1, lastTime + 2, 2 * lastTime, 1 << 41, 1 << 63, math.MaxUint64}
}

// kinds are the kinds of records, and such as are none.
func kinds() []int {
	return []int{math.MinInt, -255, -254, -1, 0, 1, 2, 3, 4, 17, 128, 255, 256, 257, 258, 65537, 65538, 1<<32 + 1, math.MaxInt}
}

// lengths are numbers about the edges of Max.
func lengths() []int {
	return []int{0, 1, 2, 3, 255, 256, 257, 898, 899, 900, 901, 902, 942, 1024, 1800, 65535, 65536, 65537, 65536 + 900}
}

// good is the chapter's sentence on what is Right, word for word.
func good(r record.Record) bool {
	switch {
	case r.Kind != op && r.Kind != mark:
		return false
	case r.Seq > lastTime:
		return false
	case r.Kind == mark && len(r.Body) > 0:
		return false
	}
	return len(r.Body) <= mostBody
}

// same tells if two records say the same.
func same(a, b record.Record) bool {
	return a.Kind == b.Kind && a.Seq == b.Seq && bytes.Equal(a.Body, b.Body)
}

// brief is so much of b as a message has room for.
func brief(b []byte) []byte {
	return b[:min(len(b), 40)]
}

// about is what a message tells of a record.
func about(r record.Record) []any {
	return []any{r.Kind, r.Seq, len(r.Body)}
}

// both holds Right, Encode, Size and Decode of one record against the chapter.
func both(t *testing.T, r record.Record) {
	t.Helper()
	want := good(r)
	if got := record.Right(r); got != want {
		t.Errorf("P16.1: Right of %v: %t", about(r), got)
	}
	b, why := record.Encode(r)
	size := record.Size(r)
	if !want {
		if why != api.ErrForm || len(b) > 0 || size != 0 {
			t.Errorf("P16.1: of %v, which is not right: Encode: %x, %v; Size: %d", about(r), brief(b), why, size)
		}
		return
	}
	if why != api.OK || !bytes.Equal(b, row(r)) {
		t.Errorf("P16.1: Encode of %v: %x, %v", about(r), brief(b), why)
	}
	if size != len(row(r)) {
		t.Errorf("P16.1: Size of %v: %d", about(r), size)
	}
	decodes(t, row(r), r, len(row(r)))
}

// decodes wants r, and that it has n bytes.
func decodes(t *testing.T, b []byte, r record.Record, n int) {
	t.Helper()
	got, size, why := record.Decode(b)
	if why != api.OK || size != n || !same(got, r) {
		t.Errorf("P16.1: Decode of %x: %v, %d, %v", brief(b), about(got), size, why)
	}
}

// decodesNone wants that refusal, and nothing beside it.
func decodesNone(t *testing.T, b []byte, want api.Errno) {
	t.Helper()
	got, size, why := record.Decode(b)
	if why != want || size != 0 || got.Kind != 0 || got.Seq != 0 || len(got.Body) > 0 {
		t.Errorf("P16.1: Decode of %x (%d bytes): %v, %d, %v; must be %v", brief(b), len(b), about(got), size, why, want)
	}
}

func TestNumbers(t *testing.T) {
	if record.Max != mostBody || record.Op != op || record.Mark != mark {
		t.Errorf("P16.1: %d, %d, %d", record.Max, record.Op, record.Mark)
	}
}

func TestRuns(t *testing.T) {
	if got := record.Size(record.Record{Kind: record.Mark, Seq: 1}); got != 15 {
		t.Errorf("P16.1: Size({Mark 1}): %d", got)
	}
}

func TestExamples(t *testing.T) {
	decodesNone(t, nil, api.ErrEnd)
	decodesNone(t, []byte{}, api.ErrEnd)
	decodesNone(t, []byte{0}, api.ErrForm)
}

// The sums were worked out apart from this program.
func TestRowsOfBytes(t *testing.T) {
	for _, c := range []struct {
		r    record.Record
		want string
	}{
		{aMark(), "020000000000000007" + "0000" + "36a41ea8"},
		{record.Record{Kind: mark, Seq: 1}, "020000000000000001" + "0000" + "3229621a"},
		{record.Record{Kind: op}, "010000000000000000" + "0000" + "aa096e2c"},
		{anOp(), "010000000203040506" + "0003" + "08090a" + "5c561a08"},
		{record.Record{Kind: op, Seq: lastTime, Body: []byte{0xff}}, "010000010000000000" + "0001" + "ff" + "c312408f"},
	} {
		b, why := record.Encode(c.r)
		if got := hex.EncodeToString(b); got != c.want || why != api.OK {
			t.Errorf("P16.1: Encode of %v: %s, %v", about(c.r), got, why)
		}
		raw, _ := hex.DecodeString(c.want)
		decodes(t, raw, c.r, len(raw))
		if got := record.Size(c.r); got != len(raw) {
			t.Errorf("P16.1: Size of %v: %d", about(c.r), got)
		}
	}
}

func TestEachFieldAtItsEdges(t *testing.T) {
	for _, kind := range kinds() {
		for _, seq := range times() {
			for _, n := range lengths() {
				both(t, record.Record{Kind: kind, Seq: seq, Body: some(n)})
			}
		}
	}
}

func TestEachLength(t *testing.T) {
	for n := range mostBody + 50 {
		both(t, record.Record{Kind: op, Seq: uint64(n), Body: some(n)})
		both(t, record.Record{Kind: mark, Seq: uint64(n), Body: some(n)})
	}
}

func TestEachByteOfABody(t *testing.T) {
	for x := range 256 {
		both(t, record.Record{Kind: op, Seq: 1, Body: []byte{byte(x)}})
		both(t, record.Record{Kind: op, Seq: uint64(x) << 32, Body: bytes.Repeat([]byte{byte(x)}, mostBody)})
	}
}

func TestNoughtsAreNotRight(t *testing.T) {
	both(t, record.Record{})
	both(t, record.Record{Seq: 1, Body: some(3)})
}

// A record's first byte alone tells whether it is worth reading on.
func TestFirstByteThatIsNoKind(t *testing.T) {
	for kind := range 256 {
		for _, tail := range [][]byte{nil, {0}, some(5), make([]byte, 14), make([]byte, 200), some(200)} {
			b := append([]byte{byte(kind)}, tail...)
			if kind != op && kind != mark {
				decodesNone(t, b, api.ErrForm)
				decodesNone(t, summed(b), api.ErrForm)
			}
		}
		r := with(anOp(), func(r *record.Record) { r.Kind = kind })
		if kind != op {
			decodesNone(t, row(r), api.ErrForm)
		}
	}
}

func TestBytesThatLack(t *testing.T) {
	for _, r := range []record.Record{anOp(), aMark(), {Kind: op}, {Kind: op, Seq: lastTime, Body: some(mostBody)}} {
		b := row(r)
		for n := range b {
			decodesNone(t, b[:n], api.ErrEnd)
			decodesNone(t, bytes.Clone(b[:n]), api.ErrEnd)
		}
		decodes(t, b[:len(b):len(b)], r, len(b))
	}
}

// That bytes lack comes ahead of a sum and of what is not Right.
func TestBytesThatLackOfWhatIsNotRight(t *testing.T) {
	for _, r := range []record.Record{
		{Kind: op, Seq: lastTime + 1, Body: some(3)},
		{Kind: op, Body: some(mostBody + 1)},
		{Kind: op, Body: some(mostShort)},
		{Kind: mark, Body: some(1)},
		{Kind: mark, Seq: math.MaxUint64, Body: some(1000)},
	} {
		b := row(r)
		for _, n := range []int{1, 2, lengthAt, lengthAt + 1, headSize, headSize + 1, len(b) - sumSize, len(b) - 2, len(b) - 1} {
			if n < len(b) {
				decodesNone(t, b[:n], api.ErrEnd)
			}
		}
		decodesNone(t, b, api.ErrForm)
		b[len(b)-1] ^= 1
		decodesNone(t, b, api.ErrSum)
		decodesNone(t, append(b, 0, 0, 0), api.ErrSum)
		decodesNone(t, b[:len(b)-1], api.ErrEnd)
	}
}

// A length may tell of more than a record can have: what it tells of is
// waited for all the same.
func TestLengthsThatLie(t *testing.T) {
	head := func(kind byte, n int) []byte {
		return binary.BigEndian.AppendUint16([]byte{kind, 0, 0, 0, 0, 0, 0, 0, 5}, uint16(n))
	}
	for _, kind := range []byte{op, mark} {
		for _, n := range []int{1, 2, mostBody, mostBody + 1, 1024, mostShort - 1, mostShort} {
			decodesNone(t, head(kind, n), api.ErrEnd)
			b := append(head(kind, n), make([]byte, n+sumSize)...)
			decodesNone(t, b[:len(b)-1], api.ErrEnd)
			decodesNone(t, b, api.ErrSum)
			decodesNone(t, append(b, some(70000)...), api.ErrSum)
			b = summed(b[:headSize+n])
			if kind == op && n <= mostBody {
				decodes(t, b, record.Record{Kind: op, Seq: 5, Body: make([]byte, n)}, len(b))
				continue
			}
			decodesNone(t, b, api.ErrForm)
			decodesNone(t, append(b, some(70000)...), api.ErrForm)
		}
	}
}

func TestSumIsTheHighestFirst(t *testing.T) {
	for _, r := range []record.Record{anOp(), aMark(), {Kind: op, Seq: 9, Body: some(mostBody)}} {
		b := unsummed(r)
		decodesNone(t, binary.LittleEndian.AppendUint32(bytes.Clone(b), crc32.ChecksumIEEE(b)), api.ErrSum)
		decodesNone(t, binary.BigEndian.AppendUint32(bytes.Clone(b), 0), api.ErrSum)
		decodesNone(t, binary.BigEndian.AppendUint32(bytes.Clone(b), ^crc32.ChecksumIEEE(b)), api.ErrSum)
		for bit := range 32 {
			decodesNone(t, binary.BigEndian.AppendUint32(bytes.Clone(b), crc32.ChecksumIEEE(b)^1<<bit), api.ErrSum)
		}
	}
}

// The sum is of all that stands ahead of it, of nothing less.
func TestSumIsOfAll(t *testing.T) {
	b := unsummed(anOp())
	for from := range b {
		for to := from; to <= len(b); to++ {
			if from == 0 && to == len(b) {
				continue
			}
			decodesNone(t, binary.BigEndian.AppendUint32(bytes.Clone(b), crc32.ChecksumIEEE(b[from:to])), api.ErrSum)
		}
	}
}

func TestWhatIsNotRightIsNotRead(t *testing.T) {
	for _, r := range []record.Record{
		{Kind: op, Seq: lastTime + 1},
		{Kind: op, Seq: math.MaxUint64, Body: some(3)},
		{Kind: mark, Seq: lastTime + 1},
		{Kind: mark, Seq: 1, Body: some(1)},
		{Kind: mark, Seq: 1, Body: some(mostBody)},
		{Kind: op, Seq: 1, Body: some(mostBody + 1)},
		{Kind: op, Seq: 1, Body: some(mostShort)},
	} {
		decodesNone(t, row(r), api.ErrForm)
		decodesNone(t, append(row(r), row(anOp())...), api.ErrForm)
	}
}

func TestWhatStandsBehindIsNotRead(t *testing.T) {
	for _, r := range []record.Record{anOp(), aMark(), {Kind: op, Body: some(mostBody)}} {
		b := row(r)
		for _, tail := range [][]byte{{0}, {1}, {0xff, 0xff}, some(17), row(aMark()), row(anOp()), make([]byte, 70000), some(1 << 20)} {
			decodes(t, append(bytes.Clone(b), tail...), r, len(b))
		}
	}
}

// One may read a log record by record, by the sizes that are told.
func TestOneBehindTheOther(t *testing.T) {
	var l []record.Record
	var b []byte
	for i := range 2000 {
		r := record.Record{Kind: op, Seq: uint64(i), Body: some(i % 901)}
		if i%3 == 0 {
			r = record.Record{Kind: mark, Seq: uint64(i)}
		}
		l = append(l, r)
		e, _ := record.Encode(r)
		b = append(b, e...)
	}
	for i, want := range l {
		got, n, why := record.Decode(b)
		if why != api.OK || n != record.Size(want) || !same(got, want) {
			t.Fatalf("P16.1: record %d: %v, %d, %v", i, about(got), n, why)
		}
		b = b[n:]
	}
	decodesNone(t, b, api.ErrEnd)
}

func TestOneByteTurned(t *testing.T) {
	for _, r := range []record.Record{anOp(), aMark(), {Kind: op}, {Kind: op, Seq: lastTime, Body: some(40)}} {
		b := row(r)
		for i := range b {
			if i == lengthAt || i == lengthAt+1 {
				continue
			}
			for x := 1; x < 256; x++ {
				c := bytes.Clone(b)
				c[i] ^= byte(x)
				for _, tail := range [][]byte{nil, {0, 0, 0}, row(aMark())} {
					got, n, why := record.Decode(append(bytes.Clone(c), tail...))
					if why == api.OK || n != 0 || !same(got, record.Record{}) {
						t.Fatalf("P16.2: byte %d of %x turned by %x is read: %v, %d, %v", i, b, x, about(got), n, why)
					}
				}
				want := api.ErrSum
				if i == 0 && c[0] != op && c[0] != mark {
					want = api.ErrForm
				}
				decodesNone(t, c, want)
			}
		}
	}
}

func TestOneByteOfALongRecordTurned(t *testing.T) {
	b := row(record.Record{Kind: op, Seq: 77, Body: some(mostBody)})
	for i := range b {
		if i == 0 || i == lengthAt || i == lengthAt+1 {
			continue
		}
		for bit := range 8 {
			c := bytes.Clone(b)
			c[i] ^= 1 << bit
			if _, _, why := record.Decode(c); why != api.ErrSum {
				t.Fatalf("P16.2: byte %d turned: %v", i, why)
			}
		}
	}
}

// parsed reads by the chapter's sentences, in their order.
func parsed(b []byte) (record.Record, int, api.Errno) {
	if len(b) > 0 && b[0] != op && b[0] != mark {
		return record.Record{}, 0, api.ErrForm
	}
	if len(b) < headSize {
		return record.Record{}, 0, api.ErrEnd
	}
	end := headSize + int(binary.BigEndian.Uint16(b[lengthAt:]))
	if len(b) < end+sumSize {
		return record.Record{}, 0, api.ErrEnd
	}
	if crc32.ChecksumIEEE(b[:end]) != binary.BigEndian.Uint32(b[end:]) {
		return record.Record{}, 0, api.ErrSum
	}
	r := record.Record{Kind: int(b[0]), Seq: binary.BigEndian.Uint64(b[1:]), Body: b[headSize:end]}
	if !good(r) {
		return record.Record{}, 0, api.ErrForm
	}
	return r, end + sumSize, api.OK
}

// drawn is a record, right or a little wrong, and turned a little.
func drawn(r *rand.Rand) []byte {
	x := record.Record{Kind: 1 + r.Intn(2), Seq: uint64(r.Intn(1 << 20))}
	switch r.Intn(8) {
	case 0:
		x.Kind = r.Intn(4)
	case 1:
		x.Seq = lastTime - 1 + uint64(r.Intn(4))
	}
	if x.Kind == op || r.Intn(4) == 0 {
		x.Body = make([]byte, r.Intn(20))
		r.Read(x.Body)
	}
	if r.Intn(10) == 0 {
		x.Body = some(895 + r.Intn(10))
	}
	b := unsummed(x)
	if r.Intn(3) == 0 {
		b[r.Intn(min(len(b), 14))] = byte(r.Intn(5))
	}
	b = summed(b)
	if r.Intn(4) == 0 {
		b[r.Intn(len(b))] ^= byte(r.Intn(256))
	}
	switch r.Intn(4) {
	case 0:
		b = b[:r.Intn(len(b)+1)]
	case 1:
		b = append(b, some(r.Intn(30))...)
	}
	return b
}

func TestAnyBytes(t *testing.T) {
	r := rand.New(rand.NewSource(1))
	count := map[api.Errno]int{}
	for range 60000 {
		b := drawn(r)
		x, n, why := record.Decode(b)
		y, m, want := parsed(b)
		count[want]++
		if why != want || n != m || !same(x, y) {
			t.Fatalf("P16.1: Decode of %x: %v, %d, %v; must be %v, %d, %v", brief(b), about(x), n, why, about(y), m, want)
		}
		if why != api.OK {
			continue
		}
		if again, no := record.Encode(x); no != api.OK || !bytes.Equal(again, b[:n]) || record.Size(x) != n {
			t.Fatalf("P16.1: what is read of %x is written as %x, %v", brief(b), brief(again), no)
		}
	}
	for _, why := range []api.Errno{api.OK, api.ErrForm, api.ErrEnd, api.ErrSum} {
		if count[why] < 1000 {
			t.Errorf("%v was drawn %d times", why, count[why])
		}
	}
}

func TestBytesWithoutAPlan(t *testing.T) {
	r := rand.New(rand.NewSource(2))
	for range 60000 {
		b := make([]byte, r.Intn(40))
		r.Read(b)
		if len(b) > 0 && r.Intn(4) > 0 {
			b[0] = byte(1 + r.Intn(2))
		}
		x, n, why := record.Decode(b)
		if y, m, want := parsed(b); why != want || n != m || !same(x, y) {
			t.Fatalf("P16.1: Decode of %x: %v, %d, %v; must be %v", b, about(x), n, why, want)
		}
	}
}

// Bytes behind a list's length are not read: R5.
func TestSpareRoomIsNotRead(t *testing.T) {
	for _, r := range []record.Record{anOp(), aMark()} {
		b := append(row(r), row(r)...)
		for n := range len(row(r)) {
			decodesNone(t, b[:n], api.ErrEnd)
		}
	}
	body := append(make([]byte, 0, 2000), some(2000)...)
	both(t, record.Record{Kind: mark, Body: body[:0]})
	both(t, record.Record{Kind: op, Body: body[:0]})
	both(t, record.Record{Kind: op, Body: body[:900]})
	both(t, record.Record{Kind: op, Body: body[:901]})
}

func TestWhatIsHandedInStays(t *testing.T) {
	room := some(50)
	kept := bytes.Clone(room)
	r := record.Record{Kind: op, Seq: 1, Body: room[:20]}
	record.Right(r)
	record.Size(r)
	b, _ := record.Encode(r)
	if !bytes.Equal(room, kept) {
		t.Errorf("R2: what is handed to Encode is changed: %x", room)
	}
	room[0] ^= 1
	if !bytes.Equal(b, row(record.Record{Kind: op, Seq: 1, Body: kept[:20]})) {
		t.Errorf("R2: what Encode answered changes with what it was handed")
	}
	whole := append(row(r), some(20)...)
	kept = bytes.Clone(whole)
	for n := range whole {
		x, _, _ := record.Decode(whole[:n])
		for i := range x.Body {
			x.Body[i] ^= 0xff
		}
		spill(x.Body)
		if !bytes.Equal(whole, kept) {
			t.Fatalf("R2: what is handed to Decode is changed, or handed out: %x", whole)
		}
	}
}

// spill writes in all the room behind b.
func spill(b []byte) {
	rest := b[len(b):cap(b)]
	for i := range rest {
		rest[i] = 0xaa
	}
}

func TestAnswersAreNew(t *testing.T) {
	r := anOp()
	a, _ := record.Encode(r)
	b, _ := record.Encode(r)
	for i := range a {
		a[i] ^= 0xff
	}
	spill(a)
	if c, _ := record.Encode(r); !bytes.Equal(b, row(r)) || !bytes.Equal(c, row(r)) {
		t.Errorf("R2: two answers of Encode share memory")
	}
	x, _, _ := record.Decode(b)
	y, _, _ := record.Decode(b)
	for i := range x.Body {
		x.Body[i] ^= 0xff
	}
	spill(x.Body)
	if z, _, _ := record.Decode(b); !same(y, r) || !same(z, r) {
		t.Errorf("R2: two answers of Decode share memory")
	}
	for i := range b {
		b[i] ^= 0xff
	}
	if !same(y, r) {
		t.Errorf("R2: what Decode answered changes with what it was handed")
	}
}

func TestNilAndEmptyMeanTheSame(t *testing.T) {
	for _, kind := range []int{op, mark} {
		a := record.Record{Kind: kind, Seq: 3}
		b := record.Record{Kind: kind, Seq: 3, Body: []byte{}}
		x, _ := record.Encode(a)
		y, _ := record.Encode(b)
		if !record.Right(a) || !record.Right(b) || record.Size(a) != record.Size(b) || !bytes.Equal(x, y) {
			t.Errorf("R4: kind %d: no Body: %x; an empty one: %x", kind, x, y)
		}
	}
}
