package op_test

import (
	"bytes"
	"encoding/binary"
	"math"
	"math/rand"
	"slices"
	"strings"
	"testing"

	"permafrost/api"
	"permafrost/op"
)

// What the table of limits and the chapter have.
const (
	mostPath  = 200
	mostData  = 600
	mostShort = 65535
	lastKind  = 17
)

// fields are what an operation may be asked, in the chapter's order, and by which
// Kinds.
var fields = []struct {
	name  string
	kinds []int
}{
	{"Path", []int{api.Create, api.Mkdir, api.Open, api.Link, api.Unlink, api.Rmdir, api.Rename, api.List, api.Stat, api.Keep}},
	{"To", []int{api.Link, api.Rename}},
	{"FD", []int{api.Read, api.Write, api.Close}},
	{"At", []int{api.Read}},
	{"N", []int{api.Read}},
	{"Until", []int{api.Close, api.Keep, api.Tick}},
	{"Snap", []int{api.Open, api.List, api.Stat, api.Forget}},
	{"Data", []int{api.Write}},
}

// asks tells by the chapter if a Kind asks that field.
func asks(kind int, name string) bool {
	for _, f := range fields {
		if f.name == name {
			return slices.Contains(f.kinds, kind)
		}
	}
	panic("no field " + name)
}

// list is b behind its length.
func list(b []byte) []byte {
	return append(binary.BigEndian.AppendUint16(nil, uint16(len(b))), b...)
}

// row are the bytes that an operation has by the chapter, be it right or not.
func row(o api.Op) []byte {
	b := []byte{byte(o.Kind)}
	for _, f := range fields {
		if !slices.Contains(f.kinds, o.Kind) {
			continue
		}
		switch f.name {
		case "Path":
			b = append(b, list([]byte(o.Path))...)
		case "To":
			b = append(b, list([]byte(o.To))...)
		case "FD":
			b = binary.BigEndian.AppendUint16(b, uint16(o.FD))
		case "At":
			b = binary.BigEndian.AppendUint16(b, uint16(o.At))
		case "N":
			b = binary.BigEndian.AppendUint16(b, uint16(o.N))
		case "Until":
			b = binary.BigEndian.AppendUint64(b, o.Until)
		case "Snap":
			b = binary.BigEndian.AppendUint16(b, uint16(o.Snap))
		case "Data":
			b = append(b, list(o.Data)...)
		}
	}
	return b
}

// pick has o's Kind and what this asks of o; the rest is x's.
func pick(o, x api.Op) api.Op {
	x.Kind = o.Kind
	if asks(o.Kind, "Path") {
		x.Path = o.Path
	}
	if asks(o.Kind, "To") {
		x.To = o.To
	}
	if asks(o.Kind, "FD") {
		x.FD = o.FD
	}
	if asks(o.Kind, "At") {
		x.At = o.At
	}
	if asks(o.Kind, "N") {
		x.N = o.N
	}
	if asks(o.Kind, "Until") {
		x.Until = o.Until
	}
	if asks(o.Kind, "Snap") {
		x.Snap = o.Snap
	}
	if asks(o.Kind, "Data") {
		x.Data = o.Data
	}
	return x
}

// only is o without what its Kind does not ask.
func only(o api.Op) api.Op {
	return pick(o, api.Op{})
}

// full is an ordinary operation of that Kind in which no field is zero.
func full(kind int) api.Op {
	return api.Op{Kind: kind, Path: "/a", To: "/bc", FD: 0x0102, At: 0x0304, N: 0x0506, Until: 0x0708090a0b0c0d0e, Snap: 0x0f10, Data: []byte("data")}
}

// wrong is an operation of that Kind in which each field but Until is refused,
// if it is asked.
func wrong(kind int) api.Op {
	long := strings.Repeat("x", mostPath+1)
	return api.Op{Kind: kind, Path: long, To: long, FD: -1, At: -1, N: -1, Until: math.MaxUint64, Snap: -1, Data: make([]byte, mostData+1)}
}

// same tells if both are one operation; no bytes and an empty list are the same.
func same(a, b api.Op) bool {
	return a.Kind == b.Kind && a.Path == b.Path && a.To == b.To && a.FD == b.FD && a.At == b.At && a.N == b.N &&
		a.Until == b.Until && a.Snap == b.Snap && bytes.Equal(a.Data, b.Data)
}

// brief is the beginning of a row, for what is told of it.
func brief(b []byte) []byte {
	return b[:min(len(b), 32)]
}

// encodes holds what Encode answers against the bytes that must be.
func encodes(t *testing.T, o api.Op, want []byte) {
	t.Helper()
	got, why := op.Encode(o)
	if why != api.OK || !bytes.Equal(got, want) {
		t.Errorf("P15.1: Encode of Kind %d: % x, %d, must be % x, 0", o.Kind, brief(got), int(why), brief(want))
	}
}

// encodesNone holds that o is refused, by that number.
func encodesNone(t *testing.T, name string, o api.Op, want api.Errno) {
	t.Helper()
	got, why := op.Encode(o)
	if why != want || len(got) != 0 {
		t.Errorf("P15.1: Encode of Kind %d, %s: % x, %d, must be none, %d", o.Kind, name, brief(got), int(why), int(want))
	}
}

// decodes holds what Decode answers against the operation that must be.
func decodes(t *testing.T, b []byte, want api.Op) {
	t.Helper()
	got, why := op.Decode(b)
	if why != api.OK || !same(got, want) {
		t.Errorf("P15.1: Decode(% x): %+v, %d, must be %+v, 0", brief(b), got, int(why), want)
	}
}

// decodesNone holds that b is refused, by that number.
func decodesNone(t *testing.T, b []byte, want api.Errno) {
	t.Helper()
	got, why := op.Decode(b)
	if why != want || !same(got, api.Op{}) {
		t.Errorf("P15.1: Decode(% x): %+v, %d, must be none, %d", brief(b), got, int(why), int(want))
	}
}

// both holds that o has its row, and that this is read as what o asks.
func both(t *testing.T, o api.Op) {
	t.Helper()
	encodes(t, o, row(o))
	decodes(t, row(o), only(o))
}

func TestNumbers(t *testing.T) {
	if api.MaxWrite != mostData || api.Create != 1 || api.Sync != lastKind {
		t.Errorf("P15.1: MaxWrite %d, Create %d, Sync %d", api.MaxWrite, api.Create, api.Sync)
	}
}

func TestRuns(t *testing.T) {
	encodes(t, api.Op{Kind: api.Take}, []byte{0x0e})
	decodes(t, []byte{0x0e}, api.Op{Kind: api.Take})
}

func TestExamples(t *testing.T) {
	encodesNone(t, "nothing", api.Op{Kind: 18}, api.ErrKind)
	decodesNone(t, nil, api.ErrKind)
	decodesNone(t, []byte{}, api.ErrKind)
}

func TestEachKind(t *testing.T) {
	for kind, want := range [][]byte{
		1:  {1, 0, 2, '/', 'a'},
		2:  {2, 0, 2, '/', 'a'},
		3:  {3, 0, 2, '/', 'a', 0x0f, 0x10},
		4:  {4, 1, 2, 3, 4, 5, 6},
		5:  {5, 1, 2, 0, 4, 'd', 'a', 't', 'a'},
		6:  {6, 1, 2, 7, 8, 9, 10, 11, 12, 13, 14},
		7:  {7, 0, 2, '/', 'a', 0, 3, '/', 'b', 'c'},
		8:  {8, 0, 2, '/', 'a'},
		9:  {9, 0, 2, '/', 'a'},
		10: {10, 0, 2, '/', 'a', 0, 3, '/', 'b', 'c'},
		11: {11, 0, 2, '/', 'a', 0x0f, 0x10},
		12: {12, 0, 2, '/', 'a', 0x0f, 0x10},
		13: {13, 0, 2, '/', 'a', 7, 8, 9, 10, 11, 12, 13, 14},
		14: {14},
		15: {15, 0x0f, 0x10},
		16: {16, 7, 8, 9, 10, 11, 12, 13, 14},
		17: {17},
	} {
		if kind == 0 {
			continue
		}
		encodes(t, full(kind), want)
		encodes(t, only(full(kind)), want)
		decodes(t, want, only(full(kind)))
		both(t, api.Op{Kind: kind})
	}
}

func TestKindsThatAreNone(t *testing.T) {
	kinds := []int{math.MinInt, math.MinInt32, -65535, 65537, 1 << 31, 1 << 32, 1<<32 + 1, math.MaxInt}
	for kind := -600; kind < 600; kind++ {
		kinds = append(kinds, kind)
	}
	for _, kind := range kinds {
		if kind < 1 || kind > lastKind {
			encodesNone(t, "nothing", api.Op{Kind: kind}, api.ErrKind)
			encodesNone(t, "ordinary fields", full(kind), api.ErrKind)
			encodesNone(t, "wrong fields", wrong(kind), api.ErrKind)
		}
	}
	for first := range 256 {
		if first < 1 || first > lastKind {
			decodesNone(t, []byte{byte(first)}, api.ErrKind)
			decodesNone(t, append([]byte{byte(first)}, row(full(api.Open))...), api.ErrKind)
			decodesNone(t, append([]byte{byte(first)}, make([]byte, 1000)...), api.ErrKind)
		}
	}
}

func TestPathsAtTheirEdges(t *testing.T) {
	for kind := 1; kind <= lastKind; kind++ {
		for _, size := range []int{0, 1, 16, 199, 200, 201, 202, 255, 256, 257, 456, 65535, 65536, 65537, 65736} {
			p := strings.Repeat("/", size)
			path, to := full(kind), full(kind)
			path.Path, to.To = p, p
			if asks(kind, "Path") && size > mostPath {
				encodesNone(t, "a long Path", path, api.ErrLong)
			} else {
				both(t, path)
			}
			if asks(kind, "To") && size > mostPath {
				encodesNone(t, "a long To", to, api.ErrLong)
			} else {
				both(t, to)
			}
		}
	}
}

func TestDataAtItsEdges(t *testing.T) {
	for kind := 1; kind <= lastKind; kind++ {
		for _, size := range []int{0, 1, 599, 600, 601, 602, 855, 856, 1200, 65535, 65536, 65537, 66136} {
			o := full(kind)
			o.Data = bytes.Repeat([]byte{7}, size)
			if kind == api.Write && size > mostData {
				encodesNone(t, "long Data", o, api.ErrLong)
			} else {
				both(t, o)
			}
		}
	}
}

func TestBothPathsAreLong(t *testing.T) {
	p := strings.Repeat("x", mostPath)
	for _, kind := range []int{api.Link, api.Rename} {
		both(t, api.Op{Kind: kind, Path: p, To: p})
		encodesNone(t, "long paths", api.Op{Kind: kind, Path: p + "x", To: p + "x"}, api.ErrLong)
	}
}

func TestPathsNeedNotBeNames(t *testing.T) {
	for kind := 1; kind <= lastKind; kind++ {
		for _, p := range []string{"", "/", "a", "a//b/", "/./..", "/A b", "\x00", "\xff\xfe\x80", "ä", "/a\x00/b", strings.Repeat("/x", 99)} {
			o := full(kind)
			o.Path, o.To = p, p+"!"
			both(t, o)
		}
	}
}

func TestEveryByteOfPathsAndData(t *testing.T) {
	for x := range 256 {
		one := []byte{byte(x)}
		both(t, api.Op{Kind: api.Rename, Path: string(one), To: "a" + string(one)})
		both(t, api.Op{Kind: api.Write, Data: append(one, 0, byte(x))})
	}
}

// withNumber is an ordinary operation of that Kind, whose number of that name is
// x.
func withNumber(kind int, name string, x int) api.Op {
	o := full(kind)
	switch name {
	case "FD":
		o.FD = x
	case "At":
		o.At = x
	case "N":
		o.N = x
	case "Snap":
		o.Snap = x
	}
	return o
}

func TestNumbersAtTheirEdges(t *testing.T) {
	for kind := 1; kind <= lastKind; kind++ {
		for _, name := range []string{"FD", "At", "N", "Snap"} {
			for _, x := range []int{math.MinInt, math.MinInt32, -65536, -65535, -1, 0, 1, 7, 8, 255, 256, 65534, 65535, 65536, 65537, 1 << 20, 1 << 31, 1 << 32, 1<<32 + 1, math.MaxInt} {
				o := withNumber(kind, name, x)
				if asks(kind, name) && (x < 0 || x > mostShort) {
					encodesNone(t, name+" that is no Short", o, api.ErrArg)
				} else {
					both(t, o)
				}
			}
		}
	}
}

func TestEveryNumberIsRead(t *testing.T) {
	for x := range mostShort + 1 {
		both(t, api.Op{Kind: api.Read, FD: x, At: mostShort - x, N: x ^ 0x5a5a})
		both(t, api.Op{Kind: api.Forget, Snap: x})
		if t.Failed() {
			return
		}
	}
}

func TestUntilMayBeAnyTime(t *testing.T) {
	times := []uint64{0, 1, api.MaxTime - 1, api.MaxTime, api.MaxTime + 1, math.MaxInt64, math.MaxInt64 + 1, math.MaxUint64}
	for bit := range 64 {
		times = append(times, 1<<bit)
	}
	for kind := 1; kind <= lastKind; kind++ {
		for _, until := range times {
			o := full(kind)
			o.Until = until
			both(t, o)
		}
	}
}

func TestWhatIsNotAskedDoesNotMatter(t *testing.T) {
	for kind := 1; kind <= lastKind; kind++ {
		o := pick(full(kind), wrong(kind))
		encodes(t, o, row(full(kind)))
		decodes(t, row(o), only(full(kind)))
	}
}

func TestOrderOfRefusals(t *testing.T) {
	for kind := 1; kind <= lastKind; kind++ {
		o := wrong(kind)
		long := asks(kind, "Path") || asks(kind, "To") || asks(kind, "Data")
		arg := asks(kind, "FD") || asks(kind, "At") || asks(kind, "N") || asks(kind, "Snap")
		switch {
		case long:
			encodesNone(t, "all wrong", o, api.ErrLong)
		case arg:
			encodesNone(t, "all wrong", o, api.ErrArg)
		default:
			both(t, o)
		}
		// Without what is long, what is no Short is told.
		o.Path, o.To, o.Data = "", "", nil
		if arg {
			encodesNone(t, "all numbers wrong", o, api.ErrArg)
		}
	}
}

func TestDecodeOfWhatIsTooLong(t *testing.T) {
	fits, long := strings.Repeat("x", mostPath), strings.Repeat("x", mostPath+1)
	for kind := 1; kind <= lastKind; kind++ {
		for _, size := range []int{mostPath + 1, mostPath + 2, 255, 256, 257, 65535} {
			if asks(kind, "Path") {
				decodesNone(t, row(api.Op{Kind: kind, Path: strings.Repeat("x", size)}), api.ErrForm)
			}
			if asks(kind, "To") {
				decodesNone(t, row(api.Op{Kind: kind, To: strings.Repeat("x", size)}), api.ErrForm)
			}
		}
	}
	decodes(t, row(api.Op{Kind: api.Link, Path: fits, To: fits}), api.Op{Kind: api.Link, Path: fits, To: fits})
	decodesNone(t, row(api.Op{Kind: api.Link, Path: long, To: fits}), api.ErrForm)
	decodesNone(t, row(api.Op{Kind: api.Link, Path: fits, To: long}), api.ErrForm)
	for _, size := range []int{0, 1, mostData - 1, mostData} {
		both(t, api.Op{Kind: api.Write, Data: make([]byte, size)})
	}
	for _, size := range []int{mostData + 1, mostData + 2, 856, 65535} {
		decodesNone(t, row(api.Op{Kind: api.Write, Data: make([]byte, size)}), api.ErrForm)
	}
}

func TestDecodeOfAnotherLength(t *testing.T) {
	for kind := 1; kind <= lastKind; kind++ {
		for _, o := range []api.Op{full(kind), {Kind: kind}} {
			b := row(o)
			for k := 1; k < len(b); k++ {
				// R5: the bytes that lack stand in the room behind, and are not read.
				decodesNone(t, b[:k], api.ErrForm)
				decodesNone(t, bytes.Clone(b[:k]), api.ErrForm)
			}
			decodesNone(t, b[:0], api.ErrKind)
			decodes(t, append(bytes.Clone(b), 1, 2, 3)[:len(b)], only(o))
			for _, behind := range [][]byte{{0}, {1}, {255}, b, make([]byte, 1<<20)} {
				decodesNone(t, append(bytes.Clone(b), behind...), api.ErrForm)
			}
		}
	}
}

// parsed is the chapter's sentences on what bytes are read as, with all lengths
// asked by hand.
func parsed(b []byte) (api.Op, api.Errno) {
	if len(b) == 0 || b[0] < 1 || b[0] > lastKind {
		return api.Op{}, api.ErrKind
	}
	o := api.Op{Kind: int(b[0])}
	rest, ok := b[1:], true
	take := func(n int) []byte {
		if ok = ok && n <= len(rest); !ok {
			return make([]byte, 8)
		}
		piece := rest[:n]
		rest = rest[n:]
		return piece
	}
	short := func() int { return int(binary.BigEndian.Uint16(take(2))) }
	piece := func(most int) []byte {
		n := short()
		p := bytes.Clone(take(n))
		ok = ok && n <= most
		return p
	}
	for _, f := range fields {
		if !slices.Contains(f.kinds, o.Kind) {
			continue
		}
		switch f.name {
		case "Path":
			o.Path = string(piece(mostPath))
		case "To":
			o.To = string(piece(mostPath))
		case "FD":
			o.FD = short()
		case "At":
			o.At = short()
		case "N":
			o.N = short()
		case "Until":
			o.Until = binary.BigEndian.Uint64(take(8))
		case "Snap":
			o.Snap = short()
		case "Data":
			o.Data = piece(mostData)
		}
	}
	if !ok || len(rest) > 0 {
		return api.Op{}, api.ErrForm
	}
	return o, api.OK
}

// reads holds Decode against the chapter's sentences, and that no two rows of
// bytes are one operation.
func reads(t *testing.T, b []byte) bool {
	t.Helper()
	want, why := parsed(b)
	if why != api.OK {
		decodesNone(t, b, why)
		return false
	}
	decodes(t, b, want)
	encodes(t, want, b)
	return true
}

func TestOneByteTurned(t *testing.T) {
	for kind := 1; kind <= lastKind; kind++ {
		for at := range row(full(kind)) {
			for x := range 256 {
				b := row(full(kind))
				b[at] = byte(x)
				reads(t, b)
				reads(t, append(b, bytes.Repeat([]byte{byte(x)}, 199)...))
			}
			if t.Failed() {
				return
			}
		}
	}
}

// drawn are bytes that are an operation's, or nearly.
func drawn(r *rand.Rand) []byte {
	some := func(most int) []byte {
		b := make([]byte, min(r.Intn(most+most/4), r.Intn(most+most/4)))
		r.Read(b)
		return b
	}
	o := api.Op{
		Kind: r.Intn(lastKind + 2), Path: string(some(mostPath)), To: string(some(mostPath)), FD: r.Intn(mostShort + 1), At: r.Intn(mostShort + 1), N: r.Intn(9),
		Until: r.Uint64() >> r.Intn(64), Snap: r.Intn(mostShort + 1), Data: some(mostData),
	}
	b := row(o)
	switch r.Intn(6) {
	case 0:
		b = b[:r.Intn(len(b)+1)]
	case 1:
		b = append(b, byte(r.Intn(2)))
	case 2:
		b[r.Intn(min(len(b), 9))] = byte(r.Intn(256))
	}
	return b
}

func TestAnyBytes(t *testing.T) {
	r := rand.New(rand.NewSource(15))
	read := 0
	for range 60000 {
		if reads(t, drawn(r)) {
			read++
		}
		b := make([]byte, r.Intn(12))
		r.Read(b)
		if len(b) > 0 && r.Intn(4) > 0 {
			b[0] %= lastKind + 1
		}
		reads(t, b)
		if t.Failed() {
			return
		}
	}
	if read < 20000 {
		t.Errorf("only %d read", read)
	}
}

func TestWhatIsHandedInStays(t *testing.T) {
	room := append(row(full(api.Write)), 1, 2, 3, 4)
	want := bytes.Clone(room)
	for k := range len(room) + 1 {
		op.Decode(room[:k])
		if !bytes.Equal(room, want) {
			t.Fatalf("R2: Decode of %d bytes changed them, or the room behind them", k)
		}
	}
	data := []byte("data and room")
	for k := range len(data) + 1 {
		op.Encode(api.Op{Kind: api.Write, Data: data[:k]})
		if string(data) != "data and room" {
			t.Fatalf("R2: Encode of %d bytes of Data changed them, or the room behind them", k)
		}
	}
}

func TestAnswersAreNew(t *testing.T) {
	o := full(api.Write)
	a, _ := op.Encode(o)
	again, _ := op.Encode(o)
	clear(a[:cap(a)])
	if string(o.Data) != "data" || !bytes.Equal(again, row(o)) {
		t.Error("R2: Encode's answer shares memory with another")
	}
	encodes(t, o, row(o))
	b := row(o)
	x, _ := op.Decode(b)
	y, _ := op.Decode(b)
	clear(x.Data[:cap(x.Data)])
	if !bytes.Equal(b, row(o)) || string(y.Data) != "data" {
		t.Error("R2: Decode's answer shares memory with another")
	}
	clear(b)
	if string(y.Data) != "data" {
		t.Error("R2: Decode keeps what was handed in")
	}
	b = row(full(api.Rename))
	x, _ = op.Decode(b)
	clear(b)
	if !same(x, only(full(api.Rename))) {
		t.Error("R2: Decode keeps what was handed in")
	}
}

func TestNilAndEmptyMeanTheSame(t *testing.T) {
	encodes(t, api.Op{Kind: api.Write, FD: 1}, []byte{5, 0, 1, 0, 0})
	encodes(t, api.Op{Kind: api.Write, FD: 1, Data: []byte{}}, []byte{5, 0, 1, 0, 0})
	encodes(t, api.Op{Kind: api.Write, FD: 1, Data: []byte("room")[:0]}, []byte{5, 0, 1, 0, 0})
	decodes(t, []byte{5, 0, 1, 0, 0}, api.Op{Kind: api.Write, FD: 1})
}
