package disk_test

import (
	"bytes"
	"math"
	"slices"
	"testing"

	"permafrost/api"
	"permafrost/disk"
)

// rolls makes numbers that look like no row, the same ones in each run.
type rolls struct{ x uint64 }

func (r *rolls) below(n int) int {
	r.x = r.x*6364136223846793005 + 1442695040888963407
	return int(r.x>>33) % n
}

// some are n bytes, none of them 0, that differ for each kind.
func some(n, kind int) []byte {
	r := &rolls{uint64(n)<<32 + uint64(kind)}
	b := make([]byte, n)
	for i := range b {
		b[i] = byte(1 + r.below(255))
	}
	return b
}

// filled is a sector that differs in each byte from what filled makes of
// another x.
func filled(x int) []byte {
	b := make([]byte, api.Sector)
	for i := range b {
		b[i] = byte(x + i)
	}
	return b
}

// mixed has the first n bytes of a, and the rest of b.
func mixed(a, b []byte, n int) []byte { return append(bytes.Clone(a[:n]), b[n:]...) }

// whole shows the spare room too.
func whole[T any](l []T) []T { return l[:cap(l)] }

// made is a new disk of n sectors.
func made(t *testing.T, n int) *disk.Disk {
	t.Helper()
	d, why := disk.New(n)
	if why != api.OK || d == nil {
		t.Fatalf("P5.1: New(%d): %d, %v", n, why, d == nil)
	}
	return d
}

// image is a disk's that has some bytes in each of its n sectors.
func image(n int) []byte { return some(n*api.Sector, 0) }

// begun is a disk with some bytes in each of its n sectors, all safe.
func begun(t *testing.T, n int) *disk.Disk {
	t.Helper()
	d, why := disk.Of(image(n))
	if why != api.OK || d == nil {
		t.Fatalf("P5.1: Of %d sectors: %d, %v", n, why, d == nil)
	}
	return d
}

// writes writes a sector that is there.
func writes(t *testing.T, d *disk.Disk, i int, b []byte) {
	t.Helper()
	if why := d.Write(i, b); why != api.OK {
		t.Fatalf("P5.1: Write(%d): %d", i, why)
	}
}

// reads holds a sector against what it must be.
func reads(t *testing.T, what string, d *disk.Disk, i int, want []byte) {
	t.Helper()
	got, why := d.Read(i)
	if why != api.OK || !bytes.Equal(got, want) {
		t.Errorf("%s: sector %d: %d, % x, must be % x", what, i, why, got, want)
	}
}

// has holds all sectors against an image, by Read and by Image.
func has(t *testing.T, what string, d *disk.Disk, want []byte) {
	t.Helper()
	if got := d.Image(); !bytes.Equal(got, want) {
		t.Errorf("%s: the Image is not what it must be: %d bytes, must be %d", what, len(got), len(want))
	}
	if d.Sectors()*api.Sector != len(want) {
		t.Fatalf("%s: %d Sectors, must be %d", what, d.Sectors(), len(want)/api.Sector)
	}
	for i := range d.Sectors() {
		if got, why := d.Read(i); why != api.OK || !bytes.Equal(got, want[i*api.Sector:(i+1)*api.Sector]) {
			t.Errorf("%s: sector %d: %d, not what it must be", what, i, why)
		}
	}
}

// dirty holds Dirty against what it must be.
func dirty(t *testing.T, what string, d *disk.Disk, want ...int) {
	t.Helper()
	if got := d.Dirty(); !slices.Equal(got, want) {
		t.Errorf("%s: Dirty %v, must be %v", what, got, want)
	}
}

// forgets crashes the disk and leaves nothing but what was safe.
func forgets(d *disk.Disk) { d.Crash(nil, -1, 0) }

func TestRuns(t *testing.T) {
	d := made(t, api.MinSectors)
	writes(t, d, 3, filled(7))
	reads(t, "Write 3", d, 3, filled(7))
	d.Crash(nil, -1, 0)
	reads(t, "Write 3, Crash(nil, -1, 0)", d, 3, make([]byte, api.Sector))
}

func TestNewOfEachNumber(t *testing.T) {
	for _, n := range []int{math.MinInt, -api.MinSectors, -1, 0, 1, api.MinSectors - 1, api.MaxSectors + 1, 2 * api.MaxSectors, math.MaxInt32, math.MaxInt} {
		if d, why := disk.New(n); d != nil || why != api.ErrArg {
			t.Errorf("P5.1: New(%d): %v, %d, must be none, %d", n, d != nil, why, api.ErrArg)
		}
	}
	for _, n := range []int{api.MinSectors, api.MinSectors + 1, 100, 1024, api.MaxSectors - 1, api.MaxSectors} {
		d := made(t, n)
		if d.Sectors() != n {
			t.Errorf("P5.1: New(%d): %d Sectors", n, d.Sectors())
		}
		has(t, "P5.1: New", d, make([]byte, n*api.Sector))
		dirty(t, "P5.1: New", d)
		if d.Writes() != 0 {
			t.Errorf("P5.1: New(%d): %d Writes", n, d.Writes())
		}
	}
}

func TestOfEachLength(t *testing.T) {
	for _, n := range []int{0, 1, api.Sector - 1, api.Sector, api.MinSectors, (api.MinSectors - 1) * api.Sector, api.MinSectors*api.Sector - 1, api.MinSectors*api.Sector + 1, 65*api.Sector - 1, 65*api.Sector + 64, api.MaxSectors*api.Sector - 1, api.MaxSectors*api.Sector + 1, (api.MaxSectors + 1) * api.Sector} {
		if d, why := disk.Of(some(n, 0)); d != nil || why != api.ErrArg {
			t.Errorf("P5.1: Of %d bytes: %v, %d, must be none, %d", n, d != nil, why, api.ErrArg)
		}
	}
	if d, why := disk.Of(nil); d != nil || why != api.ErrArg {
		t.Errorf("P5.1: Of nil: %v, %d, must be none, %d", d != nil, why, api.ErrArg)
	}
	for _, n := range []int{api.MinSectors, api.MinSectors + 1, 1024, api.MaxSectors - 1, api.MaxSectors} {
		d := begun(t, n)
		has(t, "P5.1: Of", d, image(n))
		dirty(t, "P5.1: Of", d)
		if d.Writes() != 0 {
			t.Errorf("P5.1: Of %d sectors: %d Writes", n, d.Writes())
		}
		forgets(d)
		has(t, "P5.1: Of, Crash", d, image(n))
	}
}

func TestOfReadsNoSpareRoom(t *testing.T) {
	all := image(api.MaxSectors + 1)
	for _, n := range []int{0, 63 * api.Sector, 64*api.Sector - 1} {
		if d, why := disk.Of(all[:n]); d != nil || why != api.ErrArg {
			t.Errorf("R5: Of %d bytes with room behind: %v, %d", n, d != nil, why)
		}
	}
	d, why := disk.Of(all[:64*api.Sector])
	if why != api.OK {
		t.Fatalf("R5: Of 64 sectors with room behind: %d", why)
	}
	has(t, "R5: Of", d, all[:64*api.Sector])
}

func TestOfIsByItself(t *testing.T) {
	given := image(api.MinSectors + 1)
	d, _ := disk.Of(given[:api.MinSectors*api.Sector])
	e, _ := disk.Of(given[:api.MinSectors*api.Sector])
	for i := range d.Sectors() {
		writes(t, d, i, filled(i))
	}
	d.Flush()
	if !bytes.Equal(given, image(api.MinSectors+1)) {
		t.Error("R2: Write and Flush changed the image that was handed in")
	}
	clear(given)
	has(t, "R2: what was handed in is turned", e, image(api.MinSectors + 1)[:api.MinSectors*api.Sector])
	writes(t, e, 0, filled(1))
	forgets(e)
	has(t, "R2: what was handed in is turned, Crash", e, image(api.MinSectors + 1)[:api.MinSectors*api.Sector])
}

func TestReadOfNone(t *testing.T) {
	for _, n := range []int{api.MinSectors, 100, api.MaxSectors} {
		d := begun(t, n)
		for _, i := range []int{math.MinInt, -n, -1, n, n + 1, n * api.Sector, api.MaxSectors, math.MaxInt32, math.MaxInt, math.MaxInt/api.Sector + 1} {
			if b, why := d.Read(i); len(b) != 0 || why != api.ErrArg {
				t.Errorf("P5.1: Read(%d) of %d: %x, %d, must be none, %d", i, n, b, why, api.ErrArg)
			}
		}
	}
}

func TestReadIsWhatWasWrittenLast(t *testing.T) {
	d := begun(t, api.MinSectors)
	want := image(api.MinSectors)
	for _, i := range []int{0, 1, 31, 62, 63, 1, 0} {
		for x := range 3 {
			writes(t, d, i, some(api.Sector, 10*i+x))
			copy(want[i*api.Sector:], some(api.Sector, 10*i+x))
			reads(t, "P5.1: Write, Read", d, i, some(api.Sector, 10*i+x))
			has(t, "P5.1: Write", d, want)
		}
	}
}

func TestWriteOfEachSector(t *testing.T) {
	for _, n := range []int{api.MinSectors, api.MaxSectors} {
		d := made(t, n)
		for i := range n {
			writes(t, d, i, filled(i))
		}
		for i := range n {
			reads(t, "P5.1: each was written", d, i, filled(i))
		}
		if got := d.Dirty(); len(got) != n || d.Writes() != n {
			t.Errorf("P5.1: %d are Dirty, %d Writes, must be %d", len(got), d.Writes(), n)
		}
	}
}

// row is what a Write is given.
type row struct {
	i int
	b []byte
}

// wrong are Writes that a disk of n sectors refuses.
func wrong(n int) []row {
	var all []row
	for _, i := range []int{math.MinInt, -n, -1, n, n + 1, api.MaxSectors, math.MaxInt, math.MaxInt/api.Sector + 1} {
		all = append(all, row{i, filled(9)}, row{i, nil}, row{i, filled(9)[:5]})
	}
	for _, i := range []int{0, 1, 5, n - 1} {
		all = append(all, row{i, nil}, row{i, []byte{}})
		for _, size := range []int{0, 1, api.Sector - 1, api.Sector + 1, 2 * api.Sector, n * api.Sector} {
			all = append(all, row{i, some(size, 1)}, row{i, some(size+api.Sector, 1)[:size]})
		}
	}
	return all
}

func TestRefusedWriteChangesNothing(t *testing.T) {
	d := begun(t, api.MinSectors)
	writes(t, d, 5, filled(1))
	d.Flush()
	writes(t, d, 5, filled(2))
	want := d.Image()
	for _, w := range wrong(api.MinSectors) {
		if why := d.Write(w.i, w.b); why != api.ErrArg {
			t.Errorf("P5.1: Write(%d) of %d bytes: %d, must be %d", w.i, len(w.b), why, api.ErrArg)
		}
		if d.Writes() != 2 {
			t.Fatalf("P5.1: Write(%d) of %d bytes is refused, and counted", w.i, len(w.b))
		}
		dirty(t, "R3: a refused Write", d, 5)
		if !bytes.Equal(d.Image(), want) {
			t.Fatalf("R3: Write(%d) of %d bytes is refused, and written", w.i, len(w.b))
		}
	}
	forgets(d)
	copy(want[5*api.Sector:], filled(1))
	has(t, "R3: refused Writes, Crash", d, want)
}

func TestWriteKeepsNothing(t *testing.T) {
	d := made(t, api.MinSectors)
	room := some(2*api.Sector, 3)
	given := room[:api.Sector]
	writes(t, d, 4, given)
	if !bytes.Equal(room, some(2*api.Sector, 3)) {
		t.Error("R2: Write changed what was handed in, or the room behind it")
	}
	clear(room)
	reads(t, "R2: what was handed in is turned", d, 4, some(2*api.Sector, 3)[:api.Sector])
	d.Flush()
	forgets(d)
	reads(t, "R2: what was handed in is turned, Flush", d, 4, some(2*api.Sector, 3)[:api.Sector])
}

func TestAnswersAreByThemselves(t *testing.T) {
	d := begun(t, api.MinSectors)
	writes(t, d, 2, filled(1))
	want := d.Image()
	a, _ := d.Read(2)
	b, _ := d.Read(2)
	clear(whole(a))
	if !bytes.Equal(b, filled(1)) {
		t.Error("R2: two answers of Read share memory")
	}
	clear(whole(d.Image()))
	l := d.Dirty()
	for k := range whole(l) {
		whole(l)[k] = 60
	}
	has(t, "R2: answers are turned", d, want)
	dirty(t, "R2: answers are turned", d, 2)
	forgets(d)
	has(t, "R2: answers are turned, Crash", d, image(api.MinSectors))
	e, _ := d.Read(2)
	clear(whole(e))
	has(t, "R2: an answer is turned behind a Crash", d, image(api.MinSectors))
}

func TestDirtyRises(t *testing.T) {
	d := begun(t, 100)
	dirty(t, "P5.1: nothing is written", d)
	for _, i := range []int{50, 3, 99, 0, 3, 51, 50, 98} {
		writes(t, d, i, filled(i))
	}
	dirty(t, "P5.1: Writes", d, 0, 3, 50, 51, 98, 99)
	d.Flush()
	dirty(t, "P5.1: Flush", d)
	writes(t, d, 51, filled(1))
	writes(t, d, 3, filled(1))
	dirty(t, "P5.1: Flush, Writes", d, 3, 51)
	forgets(d)
	dirty(t, "P5.2: Crash", d)
	writes(t, d, 7, filled(1))
	d.Crash([]bool{true}, -1, 0)
	dirty(t, "P5.2: Crash that keeps all", d)
}

func TestWriteOfTheSameIsDirty(t *testing.T) {
	d := begun(t, api.MinSectors)
	b, _ := d.Read(9)
	writes(t, d, 9, b)
	dirty(t, "P5.1: the same is written", d, 9)
	writes(t, d, 8, filled(1))
	writes(t, d, 8, image(api.MinSectors)[8*api.Sector:9*api.Sector])
	dirty(t, "P5.1: what was there is written again", d, 8, 9)
	has(t, "P5.1: the same is written", d, image(api.MinSectors))
	e := made(t, api.MinSectors)
	writes(t, e, 0, make([]byte, api.Sector))
	dirty(t, "P5.1: noughts are written", e, 0)
}

func TestReadingMakesNothingDirty(t *testing.T) {
	d := begun(t, api.MinSectors)
	has(t, "P5.1: Of", d, image(api.MinSectors))
	dirty(t, "P5.1: Read, Image", d)
	if d.Writes() != 0 {
		t.Errorf("P5.1: Read, Image: %d Writes", d.Writes())
	}
	writes(t, d, 1, filled(1))
	d.Image()
	d.Dirty()
	d.Read(1)
	forgets(d)
	has(t, "P5.1: Read, Image and Dirty make nothing safe", d, image(api.MinSectors))
}

func TestWritesAreCounted(t *testing.T) {
	d := made(t, api.MinSectors)
	for k := range 10 {
		if d.Writes() != k {
			t.Errorf("P5.1: Writes %d, must be %d", d.Writes(), k)
		}
		writes(t, d, k%3, filled(k%2))
		d.Write(-1, filled(1))
		d.Write(0, nil)
		switch k % 4 {
		case 1:
			d.Flush()
		case 2:
			d.Crash([]bool{true}, 0, 5)
		}
	}
	if d.Writes() != 10 {
		t.Errorf("P5.1: Writes %d, must be 10", d.Writes())
	}
}

func TestFlushMakesSafe(t *testing.T) {
	d := begun(t, api.MinSectors)
	want := image(api.MinSectors)
	for _, i := range []int{63, 0, 20} {
		writes(t, d, i, filled(100))
		writes(t, d, i, filled(i))
		copy(want[i*api.Sector:], filled(i))
	}
	d.Flush()
	has(t, "P5.1: Flush", d, want)
	forgets(d)
	has(t, "P5.1: Flush, Crash", d, want)
	for _, i := range []int{20, 21, 63} {
		writes(t, d, i, filled(200))
	}
	forgets(d)
	has(t, "P5.1: Flush, Write, Crash", d, want)
	d.Flush()
	d.Flush()
	has(t, "P5.1: Flush of nothing", d, want)
}

// places are the sectors that the crashes below find dirty: not in the order
// in which they are written, and none at the place that it is in Dirty.
func places() []int { return []int{40, 2, 63, 17, 5} }

// struck is what stands in the k-th dirty sector after the crash.
func struck(t *testing.T, keep []bool, torn, cut int) *disk.Disk {
	t.Helper()
	d := begun(t, api.MinSectors)
	for _, i := range places() {
		writes(t, d, i, filled(250))
		writes(t, d, i, filled(i))
	}
	d.Crash(keep, torn, cut)
	return d
}

// lives asks whether of the k-th dirty sector so many bytes are as written,
// as n says for each, and all else is as it was safe.
func lives(t *testing.T, what string, d *disk.Disk, n [5]int) {
	t.Helper()
	want := image(api.MinSectors)
	rising := slices.Sorted(slices.Values(places()))
	for k, i := range rising {
		copy(want[i*api.Sector:(i+1)*api.Sector], filled(i)[:n[k]])
	}
	has(t, what, d, want)
	dirty(t, what, d)
	forgets(d)
	has(t, what+", Crash", d, want)
}

func TestCrashKeeps(t *testing.T) {
	const all = api.Sector
	room := []bool{true, false, true, true, true, true}
	for i, c := range []struct {
		keep []bool
		n    [5]int
	}{
		{nil, [5]int{}},
		{[]bool{}, [5]int{}},
		{[]bool{false, false, false, false, false}, [5]int{}},
		{[]bool{true, true, true, true, true}, [5]int{all, all, all, all, all}},
		{[]bool{true}, [5]int{all}},
		{[]bool{false, true}, [5]int{0, all}},
		{[]bool{false, false, true, false, false}, [5]int{0, 0, all}},
		{[]bool{true, false, true, false, true}, [5]int{all, 0, all, 0, all}},
		{[]bool{false, false, false, false, true}, [5]int{0, 0, 0, 0, all}},
		{[]bool{false, false, false, false, false, true, true}, [5]int{}},
		{make([]bool, 100), [5]int{}},
		{room[:0], [5]int{}},
		{room[:1], [5]int{all}},
		{room[:3], [5]int{all, 0, all}},
	} {
		for _, torn := range []int{math.MinInt, -1, 5, 6, 40, math.MaxInt} {
			for _, cut := range []int{-1, 0, 64, 128, math.MaxInt} {
				was := slices.Clone(whole(c.keep))
				d := struck(t, c.keep, torn, cut)
				if !slices.Equal(whole(c.keep), was) {
					t.Errorf("R2: case %d: Crash changed keep", i)
				}
				lives(t, "P5.2: Crash that tears none", d, c.n)
			}
		}
	}
}

func TestCrashTears(t *testing.T) {
	for _, c := range []struct{ cut, n int }{
		{math.MinInt, 0}, {-128, 0}, {-1, 0}, {0, 0}, {1, 1}, {2, 2}, {63, 63}, {64, 64}, {65, 65}, {126, 126}, {127, 127}, {128, 128}, {129, 128}, {256, 128}, {math.MaxInt32, 128}, {math.MaxInt, 128},
	} {
		for torn := range 5 {
			var n [5]int
			n[torn] = c.n
			lives(t, "P5.2: nothing is kept, one is torn", struck(t, nil, torn, c.cut), n)
			for k := range n {
				n[k] = api.Sector
			}
			n[torn] = c.n
			lives(t, "P5.2: all is kept, one is torn", struck(t, []bool{true, true, true, true, true}, torn, c.cut), n)
		}
	}
}

func TestTornHasItsFirstBytesAsWritten(t *testing.T) {
	for cut := range api.Sector + 1 {
		d := made(t, api.MinSectors)
		writes(t, d, 6, filled(3))
		d.Flush()
		writes(t, d, 6, filled(90))
		d.Crash(nil, 0, cut)
		reads(t, "P5.2: torn", d, 6, mixed(filled(90), filled(3), cut))
	}
}

func TestCrashLeavesWhatIsNotDirty(t *testing.T) {
	d := begun(t, api.MinSectors)
	d.Crash([]bool{true, true, true}, 0, 64)
	has(t, "P5.2: Crash of what is not dirty", d, image(api.MinSectors))
	want := image(api.MinSectors)
	for _, i := range []int{0, 1, 2} {
		writes(t, d, i, filled(i))
		copy(want[i*api.Sector:], filled(i))
	}
	d.Flush()
	d.Crash([]bool{true, false, true}, 1, 64)
	has(t, "P5.2: Flush, Crash", d, want)
}

func TestWhatACrashLeftIsSafe(t *testing.T) {
	d := begun(t, api.MinSectors)
	writes(t, d, 1, filled(1))
	writes(t, d, 2, filled(2))
	writes(t, d, 3, filled(3))
	d.Crash([]bool{true}, 1, 50)
	want := d.Image()
	for _, i := range []int{1, 2, 3} {
		writes(t, d, i, filled(77))
	}
	dirty(t, "P5.2: Crash, Writes", d, 1, 2, 3)
	forgets(d)
	has(t, "P5.2: Crash, Writes, Crash", d, want)
	reads(t, "P5.2: kept", d, 1, filled(1))
	reads(t, "P5.2: torn", d, 2, mixed(filled(2), image(api.MinSectors)[2*api.Sector:3*api.Sector], 50))
	reads(t, "P5.2: lost", d, 3, image(api.MinSectors)[3*api.Sector:4*api.Sector])
	writes(t, d, 2, filled(5))
	d.Crash(nil, 0, 20)
	reads(t, "P5.2: torn twice", d, 2, mixed(filled(5), want[2*api.Sector:3*api.Sector], 20))
}

func TestImageIsReadBack(t *testing.T) {
	d := begun(t, 77)
	writes(t, d, 76, filled(1))
	writes(t, d, 0, filled(2))
	e, why := disk.Of(d.Image())
	if why != api.OK {
		t.Fatalf("P5.2: Of of Image: %d", why)
	}
	has(t, "P5.2: Of of Image", e, d.Image())
	dirty(t, "P5.2: Of of Image", e)
	forgets(e)
	reads(t, "P5.2: what was dirty there is safe here", e, 76, filled(1))
	dirty(t, "P5.2: Of of Image leaves the first disk", d, 0, 76)
	forgets(d)
	has(t, "P5.2: Of of Image leaves the first disk", d, image(77))
	reads(t, "P5.2: Of of Image is by itself", e, 0, filled(2))
}

// account tells what a disk must be: of each sector that is dirty what was
// written last, and of each that was ever safe what is.
type account struct {
	safe   map[int][]byte
	last   map[int][]byte
	writes int
}

func (a *account) at(i int) []byte {
	if b := a.last[i]; b != nil {
		return b
	}
	if b := a.safe[i]; b != nil {
		return b
	}
	return make([]byte, api.Sector)
}

func (a *account) dirty() []int {
	var all []int
	for i := range a.last {
		all = append(all, i)
	}
	slices.Sort(all)
	return all
}

func (a *account) flush() {
	for i, b := range a.last {
		a.safe[i] = b
	}
	clear(a.last)
}

func (a *account) crash(keep []bool, torn, cut int) {
	was, written := a.dirty(), a.last
	a.last = map[int][]byte{}
	for k, i := range was {
		b := bytes.Clone(a.at(i))
		for at := range b {
			if k == torn && at < cut || k != torn && k < len(keep) && keep[k] {
				b[at] = written[i][at]
			}
		}
		a.safe[i] = b
	}
}

// write says what Write must answer.
func (a *account) write(i int, b []byte, n int) api.Errno {
	if i < 0 || i >= n || len(b) != api.Sector {
		return api.ErrArg
	}
	a.last[i] = b
	a.writes++
	return api.OK
}

// one makes a step with both.
func (a *account) one(t *testing.T, r *rolls, d *disk.Disk, n int) {
	t.Helper()
	switch k := r.below(20); {
	case k < 15:
		i := r.below(n+2) - 1
		b := some(r.below(50)/49+api.Sector, r.below(1<<20))
		if got, want := d.Write(i, b), a.write(i, b, n); got != want {
			t.Fatalf("P5.1: Write(%d) of %d bytes: %d, must be %d", i, len(b), got, want)
		}
	case k < 17:
		d.Flush()
		a.flush()
	default:
		keep := make([]bool, r.below(8))
		for k := range keep {
			keep[k] = r.below(2) == 0
		}
		torn, cut := r.below(8)-1, r.below(140)-6
		d.Crash(keep, torn, cut)
		a.crash(keep, torn, cut)
	}
}

func TestAgainstAnAccount(t *testing.T) {
	for run := range 20 {
		r := &rolls{uint64(run)}
		n := api.MinSectors + r.below(3)
		d := made(t, n)
		a := &account{map[int][]byte{}, map[int][]byte{}, 0}
		for step := range 300 {
			a.one(t, r, d, n)
			want := make([]byte, 0, n*api.Sector)
			for i := range n {
				want = append(want, a.at(i)...)
			}
			if !bytes.Equal(d.Image(), want) || !slices.Equal(d.Dirty(), a.dirty()) || d.Writes() != a.writes || d.Sectors() != n {
				t.Fatalf("P5.1, P5.2: run %d, step %d: the disk is not what the account says: Dirty %v and %v, Writes %d and %d", run, step, d.Dirty(), a.dirty(), d.Writes(), a.writes)
			}
		}
	}
}

func TestNothingPanics(t *testing.T) {
	ugly := []int{math.MinInt, math.MinInt + 1, math.MinInt32, -129, -128, -1, 0, 1, 63, 64, 127, 128, 129, math.MaxInt32, math.MaxInt - 1, math.MaxInt}
	d := made(t, api.MinSectors)
	for _, a := range ugly {
		disk.New(a)
		d.Read(a)
		d.Write(a, nil)
		for _, b := range ugly {
			d.Write(0, filled(1))
			d.Write(63, filled(1))
			d.Crash(nil, a, b)
			d.Write(a, filled(2))
			d.Crash([]bool{true}, a, b)
		}
	}
	if len(d.Dirty()) != 0 {
		t.Errorf("P5.2: Crash: Dirty %v", d.Dirty())
	}
}
