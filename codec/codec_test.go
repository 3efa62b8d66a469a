package codec_test

import (
	"bytes"
	"math"
	"testing"

	"permafrost/api"
	"permafrost/codec"
)

// some are n bytes, each unlike its neighbours.
func some(n int) []byte {
	b := make([]byte, n)
	x := uint32(n) + 1
	for i := range b {
		x = x*1664525 + 1013904223
		b[i] = byte(x >> 24)
	}
	return b
}

// whole shows the spare room too.
func whole(b []byte) []byte { return b[:cap(b)] }

// written is what a Writer has made when write has been at it.
func written(write func(w *codec.Writer)) []byte {
	w := codec.NewWriter()
	write(w)
	return w.Done()
}

// wants holds a row of bytes against what it must be.
func wants(t *testing.T, what string, got, want []byte) {
	t.Helper()
	if !bytes.Equal(got, want) {
		t.Errorf("P4.1: %s: %d bytes, % x, must be %d, % x", what, len(got), short(got), len(want), short(want))
	}
}

// short keeps what a test tells readable.
func short(b []byte) []byte { return b[:min(len(b), 32)] }

// ends holds a Reader's Left and End against what they must be.
func ends(t *testing.T, what string, r *codec.Reader, left int, end api.Errno) {
	t.Helper()
	if r.Left() != left || r.End() != end {
		t.Errorf("P4.1: %s: Left %d, End %d, must be %d, %d", what, r.Left(), r.End(), left, end)
	}
}

// allZero asks every call of a Reader that has refused, again and again.
func allZero(t *testing.T, what string, r *codec.Reader, end api.Errno) {
	t.Helper()
	ends(t, what, r, 0, end)
	for range 2 {
		if n := r.Byte(); n != 0 {
			t.Errorf("P4.1: %s: Byte behind a refusal: %d", what, n)
		}
		if n := r.Short(); n != 0 {
			t.Errorf("P4.1: %s: Short behind a refusal: %d", what, n)
		}
		if n := r.Long(); n != 0 {
			t.Errorf("P4.1: %s: Long behind a refusal: %d", what, n)
		}
		if r.Flag() {
			t.Errorf("P4.1: %s: Flag behind a refusal: true", what)
		}
		if b := r.Bytes(); len(b) != 0 {
			t.Errorf("P4.1: %s: Bytes behind a refusal: %x", what, b)
		}
		for _, n := range []int{-1, 0, 1, 2, 100} {
			if b := r.Raw(n); len(b) != 0 {
				t.Errorf("P4.1: %s: Raw(%d) behind a refusal: %x", what, n, b)
			}
		}
		ends(t, what, r, 0, end)
	}
}

func TestRuns(t *testing.T) {
	wants(t, "Short(258), Flag(true)", written(func(w *codec.Writer) {
		w.Short(258)
		w.Flag(true)
	}), []byte{1, 2, 1})
}

func TestNothing(t *testing.T) {
	wants(t, "a new Writer", codec.NewWriter().Done(), nil)
	for i, b := range [][]byte{nil, {}, some(9)[:0]} {
		ends(t, "a Reader of nothing", codec.NewReader(b), 0, api.OK)
		wants(t, "Raw of nothing", written(func(w *codec.Writer) { w.Raw(b) }), nil)
		wants(t, "Bytes of nothing", written(func(w *codec.Writer) { w.Bytes(b) }), []byte{0, 0})
		r := codec.NewReader(b)
		if got := r.Raw(0); len(got) != 0 {
			t.Errorf("P4.1: case %d: Raw(0) of nothing: %x", i, got)
		}
		ends(t, "Raw(0) of nothing", r, 0, api.OK)
	}
}

// wholeNumbers are at all edges of a Byte and a Short, and far beyond them.
func wholeNumbers() []int {
	all := []int{0, 1, 2, 127, 128, 254, 255, 256, 257, 258, 511, 512, 32767, 32768, 65279, 65280, 65534, 65535, 65536, 65537, 1 << 20, 0x12345678, math.MaxInt32, math.MaxInt}
	for _, n := range all[1:] {
		all = append(all, -n)
	}
	return append(all, math.MinInt32, math.MinInt)
}

func TestByteHasTheLowestBits(t *testing.T) {
	for _, n := range wholeNumbers() {
		wants(t, "Byte", written(func(w *codec.Writer) { w.Byte(n) }), []byte{byte(n)})
	}
}

func TestShortHasTheLowestBits(t *testing.T) {
	for _, n := range wholeNumbers() {
		wants(t, "Short", written(func(w *codec.Writer) { w.Short(n) }), []byte{byte(n >> 8), byte(n)})
	}
}

func TestByteAndShortOfWhatIsNoBits(t *testing.T) {
	wants(t, "Byte(-1), Short(-2), Byte(256), Short(65536 and 258)", written(func(w *codec.Writer) {
		w.Byte(-1)
		w.Short(-2)
		w.Byte(256)
		w.Short(65536 + 258)
	}), []byte{255, 255, 254, 0, 1, 2})
}

func TestLongHasEightBytes(t *testing.T) {
	wants(t, "Long", written(func(w *codec.Writer) { w.Long(0x0102030405060708) }), []byte{1, 2, 3, 4, 5, 6, 7, 8})
	wants(t, "Long(MaxTime)", written(func(w *codec.Writer) { w.Long(api.MaxTime) }), []byte{0, 0, 1, 0, 0, 0, 0, 0})
	wants(t, "Long(0)", written(func(w *codec.Writer) { w.Long(0) }), make([]byte, 8))
	wants(t, "Long of all ones", written(func(w *codec.Writer) { w.Long(math.MaxUint64) }), bytes.Repeat([]byte{255}, 8))
	for bit := range 64 {
		want := make([]byte, 8)
		want[7-bit/8] = 1 << (bit % 8)
		wants(t, "Long of one bit", written(func(w *codec.Writer) { w.Long(1 << bit) }), want)
	}
}

func TestFlagIsAByte(t *testing.T) {
	wants(t, "Flag(true)", written(func(w *codec.Writer) { w.Flag(true) }), []byte{1})
	wants(t, "Flag(false)", written(func(w *codec.Writer) { w.Flag(false) }), []byte{0})
}

func TestBytesOfEachLength(t *testing.T) {
	for _, n := range []int{0, 1, 2, 3, 127, 128, 255, 256, 257, 600, 4096, 32767, 32768, 65279, 65280, 65534, 65535} {
		b := some(n)
		want := append([]byte{byte(n >> 8), byte(n)}, b...)
		wants(t, "Bytes", written(func(w *codec.Writer) { w.Bytes(b) }), want)
	}
}

func TestBytesAboveTheMost(t *testing.T) {
	for _, n := range []int{65535, 65536, 65537, 65791, 65792, 131071, 131072, 200000} {
		b := some(n)
		want := append([]byte{255, 255}, b[:65535]...)
		wants(t, "Bytes of too many", written(func(w *codec.Writer) { w.Bytes(b) }), want)
		wants(t, "a Byte behind Bytes of too many", written(func(w *codec.Writer) {
			w.Bytes(b)
			w.Byte(7)
		}), append(want, 7))
	}
}

func TestRawIsItself(t *testing.T) {
	for _, n := range []int{0, 1, 2, 3, 255, 256, 65535, 65536, 65537, 200000} {
		b := some(n)
		wants(t, "Raw", written(func(w *codec.Writer) { w.Raw(b) }), b)
	}
}

func TestOneBehindTheOther(t *testing.T) {
	wants(t, "one of each", written(func(w *codec.Writer) {
		w.Byte(1)
		w.Short(0x0203)
		w.Long(0x0405060708090a0b)
		w.Flag(false)
		w.Bytes([]byte("ab"))
		w.Raw([]byte("cd"))
		w.Flag(true)
	}), []byte{1, 2, 3, 4, 5, 6, 7, 8, 9, 10, 11, 0, 0, 2, 'a', 'b', 'c', 'd', 1})
}

func TestAWriterGoesOn(t *testing.T) {
	w := codec.NewWriter()
	w.Byte(1)
	one, two := w.Done(), w.Done()
	w.Byte(2)
	three := w.Done()
	wants(t, "Done", one, []byte{1})
	wants(t, "Done twice", two, []byte{1})
	wants(t, "Done behind more", three, []byte{1, 2})
}

func TestWritersByThemselves(t *testing.T) {
	one, two := codec.NewWriter(), codec.NewWriter()
	one.Short(1)
	two.Byte(2)
	one.Raw([]byte("x"))
	wants(t, "one of two Writers", one.Done(), []byte{0, 1, 'x'})
	wants(t, "the other one", two.Done(), []byte{2})
}

func TestEachByteIsRead(t *testing.T) {
	for x := range 256 {
		r := codec.NewReader([]byte{byte(x), 9})
		if n := r.Byte(); n != x {
			t.Errorf("P4.1: Byte: %d, must be %d", n, x)
		}
		ends(t, "Byte", r, 1, api.ErrTail)
	}
}

func TestEachShortIsRead(t *testing.T) {
	for x := range 65536 {
		r := codec.NewReader([]byte{byte(x >> 8), byte(x), 9})
		if n := r.Short(); n != x {
			t.Fatalf("P4.1: Short: %d, must be %d", n, x)
		}
		ends(t, "Short", r, 1, api.ErrTail)
	}
}

func TestLongIsRead(t *testing.T) {
	all := []uint64{0, 0x0102030405060708, 0xfffefdfcfbfaf9f8, api.MaxTime, api.MaxTime + 1, math.MaxInt64, math.MaxUint64}
	for bit := range 64 {
		all = append(all, 1<<bit, ^(uint64(1) << bit))
	}
	for _, x := range all {
		r := codec.NewReader(append(written(func(w *codec.Writer) { w.Long(x) }), 9))
		if n := r.Long(); n != x {
			t.Errorf("P4.1: Long: %x, must be %x", n, x)
		}
		ends(t, "Long", r, 1, api.ErrTail)
	}
	if n := codec.NewReader([]byte{1, 2, 3, 4, 5, 6, 7, 8}).Long(); n != 0x0102030405060708 {
		t.Errorf("P4.1: Long of 1 to 8: %x", n)
	}
}

func TestEachFlagIsRead(t *testing.T) {
	for x := range 256 {
		r := codec.NewReader([]byte{byte(x), 1, 1, 1, 1, 1, 1, 1, 1, 1})
		got := r.Flag()
		if got != (x == 1) {
			t.Errorf("P4.1: Flag of %d: %v", x, got)
		}
		if x > 1 {
			allZero(t, "Flag", r, api.ErrForm)
		} else {
			ends(t, "Flag", r, 9, api.ErrTail)
		}
	}
}

func TestAFlagThatIsTheLastByte(t *testing.T) {
	for x, end := range []api.Errno{api.OK, api.OK, api.ErrForm, api.ErrForm} {
		r := codec.NewReader([]byte{byte(x)})
		if got := r.Flag(); got != (x == 1) {
			t.Errorf("P4.1: Flag of %d: %v", x, got)
		}
		ends(t, "Flag of the last byte", r, 0, end)
	}
}

func TestBytesAreRead(t *testing.T) {
	for _, n := range []int{0, 1, 2, 127, 128, 255, 256, 257, 4096, 65534, 65535} {
		b := some(n)
		for _, behind := range []int{0, 1, 5} {
			r := codec.NewReader(append(append([]byte{byte(n >> 8), byte(n)}, b...), some(behind)...))
			wants(t, "Bytes", r.Bytes(), b)
			end := api.OK
			if behind > 0 {
				end = api.ErrTail
			}
			ends(t, "Bytes", r, behind, end)
			wants(t, "Raw behind Bytes", r.Raw(behind), some(behind))
			ends(t, "Raw behind Bytes", r, 0, api.OK)
		}
	}
}

func TestBytesAboveTheMostAreRead(t *testing.T) {
	b := some(70000)
	r := codec.NewReader(written(func(w *codec.Writer) {
		w.Bytes(b)
		w.Short(258)
	}))
	wants(t, "Bytes of too many", r.Bytes(), b[:65535])
	if n := r.Short(); n != 258 {
		t.Errorf("P4.1: Short behind Bytes of too many: %d", n)
	}
	ends(t, "Bytes of too many", r, 0, api.OK)
}

func TestRawIsRead(t *testing.T) {
	b := some(70000)
	for _, n := range []int{1, 2, 3, 255, 256, 65535, 65536, 65537, 69999, 70000} {
		r := codec.NewReader(b)
		wants(t, "Raw", r.Raw(n), b[:n])
		end := api.ErrTail
		if n == len(b) {
			end = api.OK
		}
		ends(t, "Raw", r, len(b)-n, end)
		wants(t, "Raw of the rest", r.Raw(len(b)-n), b[n:])
		ends(t, "Raw of the rest", r, 0, api.OK)
	}
}

func TestRawBelowOne(t *testing.T) {
	for _, n := range []int{0, -1, -2, -255, -65536, math.MinInt32, math.MinInt} {
		r := codec.NewReader([]byte{1, 2})
		if b := r.Raw(n); len(b) != 0 {
			t.Errorf("P4.1: Raw(%d): %x", n, b)
		}
		ends(t, "Raw below 1", r, 2, api.ErrTail)
		if got := r.Short(); got != 258 {
			t.Errorf("P4.1: Short behind Raw(%d): %d", n, got)
		}
		r.Raw(n)
		ends(t, "Raw below 1, of no bytes", r, 0, api.OK)
	}
}

func TestRawOfTooMany(t *testing.T) {
	for _, have := range []int{0, 1, 2, 9, 300} {
		for _, n := range []int{have + 1, have + 2, have + 256, have + 65536, math.MaxInt32, math.MaxInt - 1, math.MaxInt} {
			r := codec.NewReader(some(have))
			if b := r.Raw(n); len(b) != 0 {
				t.Errorf("P4.1: Raw(%d) of %d bytes: %x", n, have, b)
			}
			allZero(t, "Raw of too many", r, api.ErrEnd)
		}
	}
}

// cuts are calls that lack bytes, of a row of ones that ends too early.
var cuts = []struct {
	name  string
	needs int
	read  func(r *codec.Reader) bool // is it zero?
}{
	{"Byte", 1, func(r *codec.Reader) bool { return r.Byte() == 0 }},
	{"Short", 2, func(r *codec.Reader) bool { return r.Short() == 0 }},
	{"Long", 8, func(r *codec.Reader) bool { return r.Long() == 0 }},
	{"Flag", 1, func(r *codec.Reader) bool { return !r.Flag() }},
	{"Bytes", 2 + 257, func(r *codec.Reader) bool { return len(r.Bytes()) == 0 }},
	{"Raw", 5, func(r *codec.Reader) bool { return len(r.Raw(5)) == 0 }},
}

func TestWhatIsCutOff(t *testing.T) {
	for _, c := range cuts {
		for have := range c.needs + 1 {
			r := codec.NewReader(bytes.Repeat([]byte{1}, have))
			zero := c.read(r)
			if zero != (have < c.needs) {
				t.Errorf("P4.1: %s of %d bytes: zero is %v", c.name, have, zero)
			}
			if have < c.needs {
				allZero(t, c.name+" that is cut off", r, api.ErrEnd)
			} else {
				ends(t, c.name+" that is whole", r, 0, api.OK)
			}
		}
	}
}

func TestWhatIsCutOffBehindOthers(t *testing.T) {
	for _, c := range cuts {
		for have := range c.needs {
			r := codec.NewReader(append([]byte{7, 7}, bytes.Repeat([]byte{1}, have)...))
			if n := r.Short(); n != 0x0707 {
				t.Errorf("P4.1: Short: %x", n)
			}
			if !c.read(r) {
				t.Errorf("P4.1: %s of %d bytes behind a Short is not zero", c.name, have)
			}
			allZero(t, c.name+" that is cut off behind a Short", r, api.ErrEnd)
		}
	}
}

func TestBytesOfALengthThatLies(t *testing.T) {
	for _, c := range []struct{ tells, have int }{{1, 0}, {2, 1}, {256, 1}, {255, 254}, {65535, 65534}, {65535, 0}, {32768, 32767}} {
		r := codec.NewReader(append([]byte{byte(c.tells >> 8), byte(c.tells)}, some(c.have)...))
		if b := r.Bytes(); len(b) != 0 {
			t.Errorf("P4.1: Bytes of %d, where %d tell: %d bytes", c.have, c.tells, len(b))
		}
		allZero(t, "Bytes whose length lies", r, api.ErrEnd)
	}
}

func TestTheFirstRefusalStays(t *testing.T) {
	form := codec.NewReader([]byte{2})
	form.Flag()
	for _, c := range cuts {
		c.read(form)
	}
	allZero(t, "ErrForm, then what lacks", form, api.ErrForm)
	end := codec.NewReader([]byte{2})
	end.Short()
	end.Flag()
	allZero(t, "ErrEnd, then a Flag of 2", end, api.ErrEnd)
}

func TestLeftAndEndAtEachStep(t *testing.T) {
	row := written(func(w *codec.Writer) {
		w.Byte(5)
		w.Short(6)
		w.Long(7)
		w.Flag(true)
		w.Bytes([]byte("abc"))
		w.Raw([]byte("de"))
	})
	r := codec.NewReader(row)
	for i, step := range []struct {
		read func() bool
		size int
	}{
		{func() bool { return true }, 0},
		{func() bool { return r.Byte() == 5 }, 1},
		{func() bool { return r.Short() == 6 }, 2},
		{func() bool { return r.Long() == 7 }, 8},
		{r.Flag, 1},
		{func() bool { return string(r.Bytes()) == "abc" }, 5},
		{func() bool { return string(r.Raw(1)) == "d" }, 1},
	} {
		left := r.Left()
		if !step.read() || r.Left() != left-step.size {
			t.Errorf("P4.1: step %d: Left %d, must be %d", i, r.Left(), left-step.size)
		}
		// End asks, and changes nothing: one may read on behind it
		if r.End() != api.ErrTail || r.End() != api.ErrTail {
			t.Errorf("P4.1: step %d: End %d with %d bytes left", i, r.End(), r.Left())
		}
	}
	wants(t, "Raw of the last byte", r.Raw(1), []byte("e"))
	ends(t, "all is read", r, 0, api.OK)
	r.Byte()
	allZero(t, "one more", r, api.ErrEnd)
}

func TestReadersByThemselves(t *testing.T) {
	b := []byte{1, 2, 3}
	one, two := codec.NewReader(b), codec.NewReader(b)
	one.Long()
	if n := two.Short(); n != 258 {
		t.Errorf("P4.1: Short of another Reader: %d", n)
	}
	ends(t, "one of two Readers", one, 0, api.ErrEnd)
	ends(t, "the other one", two, 1, api.ErrTail)
}

func TestWhatIsHandedToAWriter(t *testing.T) {
	for _, n := range []int{0, 1, 3, 100} {
		room := some(200)
		b := room[:n]
		w := codec.NewWriter()
		w.Raw(b)
		w.Bytes(b)
		w.Long(math.MaxUint64)
		want := w.Done()
		if !bytes.Equal(room, some(200)) {
			t.Fatalf("R2: %d bytes handed in were changed", n)
		}
		clear(room)
		if !bytes.Equal(w.Done(), want) {
			t.Errorf("R2: %d bytes handed in were kept", n)
		}
	}
}

func TestWhatIsHandedToAReader(t *testing.T) {
	for _, n := range []int{0, 1, 3, 100} {
		room := some(200)
		r := codec.NewReader(room[:n])
		if r.Left() != n {
			t.Errorf("R5: Left of %d bytes with room behind them: %d", n, r.Left())
		}
		clear(room)
		wants(t, "Raw of what was changed behind NewReader", r.Raw(n), some(200)[:n])
		r = codec.NewReader(some(200)[:n])
		if b := r.Raw(n + 1); len(b) != 0 || r.End() != api.ErrEnd {
			t.Errorf("R5: the room behind %d bytes is read: %x", n, b)
		}
	}
}

func TestAReaderChangesNothing(t *testing.T) {
	room := some(200)
	want := bytes.Clone(room)
	r := codec.NewReader(room[:100])
	for _, b := range [][]byte{r.Raw(30), r.Raw(1), r.Raw(69)} {
		for i := range whole(b) {
			whole(b)[i] ^= 0xff
		}
	}
	if !bytes.Equal(room, want) {
		t.Error("R2: what is handed in was changed by what was answered")
	}
}

// turn writes to all of an answer, and to its spare room.
func turn(b []byte) {
	for i := range whole(b) {
		whole(b)[i] ^= 0xff
	}
}

func TestDoneIsNewMemory(t *testing.T) {
	for n := range 70 {
		w := codec.NewWriter()
		for k := range n {
			w.Byte(k)
		}
		want := bytes.Clone(w.Done())
		turn(w.Done())
		wants(t, "Done behind a Done that was written to", w.Done(), want)
		one := w.Done()
		w.Byte(n)
		turn(one)
		wants(t, "Done behind a Byte, the last Done written to", w.Done(), append(want, byte(n)))
		kept := w.Done()
		was := bytes.Clone(whole(kept))
		w.Byte(0xaa)
		w.Long(math.MaxUint64)
		if !bytes.Equal(whole(kept), was) {
			t.Errorf("R2: an answer of %d bytes, or its spare room, is written to", len(kept))
		}
	}
}

func TestReadPiecesAreNewMemory(t *testing.T) {
	b := some(600)
	row := written(func(w *codec.Writer) {
		w.Bytes(b[:100])
		w.Raw(b[100:300])
		w.Bytes(b[300:])
	})
	r := codec.NewReader(row)
	one := r.Bytes()
	turn(one)
	two := r.Raw(200)
	wants(t, "Raw behind Bytes that were written to", two, b[100:300])
	turn(two)
	three := r.Bytes()
	wants(t, "Bytes behind a Raw that was written to", three, b[300:])
	ends(t, "all is read", r, 0, api.OK)
	r = codec.NewReader(row)
	wants(t, "the same again", r.Bytes(), b[:100])
}

func TestWhatIsWrittenIsRead(t *testing.T) {
	x := uint64(1)
	next := func(n int) int {
		x = x*6364136223846793005 + 1442695040888963407
		return int(x>>33) % n
	}
	for round := range 300 {
		w := codec.NewWriter()
		kinds, seeds := []int{}, []int{}
		for range next(20) {
			kind, seed := next(6), next(1<<17)
			kinds, seeds = append(kinds, kind), append(seeds, seed)
			write(w, kind, seed)
		}
		r := codec.NewReader(w.Done())
		for i, kind := range kinds {
			if !reads(r, kind, seeds[i]) {
				t.Fatalf("P4.1: round %d: part %d, kind %d, is not read back", round, i, kind)
			}
		}
		ends(t, "all is read", r, 0, api.OK)
	}
}

// write writes one part; what it is hangs on seed.
func write(w *codec.Writer, kind, seed int) {
	switch kind {
	case 0:
		w.Byte(seed)
	case 1:
		w.Short(seed)
	case 2:
		w.Long(uint64(seed) * 0x9e3779b97f4a7c15)
	case 3:
		w.Flag(seed%2 == 1)
	case 4:
		w.Bytes(some(seed))
	case 5:
		w.Raw(some(seed % 1000))
	}
}

// reads reads the part that write wrote of the same seed.
func reads(r *codec.Reader, kind, seed int) bool {
	switch kind {
	case 0:
		return r.Byte() == seed%256
	case 1:
		return r.Short() == seed%65536
	case 2:
		return r.Long() == uint64(seed)*0x9e3779b97f4a7c15
	case 3:
		return r.Flag() == (seed%2 == 1)
	case 4:
		return bytes.Equal(r.Bytes(), some(seed)[:min(seed, 65535)])
	}
	return bytes.Equal(r.Raw(seed%1000), some(seed%1000))
}
