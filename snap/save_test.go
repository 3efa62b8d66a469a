package snap_test

import (
	"bytes"
	"encoding/binary"
	"encoding/hex"
	"math"
	"math/rand"
	"slices"
	"strings"
	"testing"

	"permafrost/api"
	"permafrost/snap"
	"permafrost/tree"
)

// form is a Save as its bytes stand, be it one or not.
type form struct {
	next uint64
	last []byte
	many int // what is told more than there are
	all  []was
	more []byte // what stands behind
}

// was is a snapshot in it.
type was struct {
	id   uint64
	hash []byte
	size uint64 // what is told more than there are
	tree []byte
}

// bytes are a form's, by the chapter.
func (f form) bytes() []byte {
	b := binary.BigEndian.AppendUint64(nil, f.next)
	b = withLength(b, f.last)
	b = append(b, byte(len(f.all)+f.many))
	for _, x := range f.all {
		b = binary.BigEndian.AppendUint64(b, x.id)
		b = withLength(b, x.hash)
		b = binary.BigEndian.AppendUint64(b, uint64(len(x.tree))+x.size)
		b = append(b, x.tree...)
	}
	return append(b, f.more...)
}

// isForm holds that a Save is this.
func isForm(t *testing.T, s *snap.Snaps, want form) {
	t.Helper()
	if got := s.Save(); !bytes.Equal(got, want.bytes()) {
		t.Fatalf("P13.2: Save:\n% x, must be\n% x", got, want.bytes())
	}
}

// loads holds that b is read, and is the Save of what is read.
func loads(t *testing.T, name string, b []byte) *snap.Snaps {
	t.Helper()
	s, why := snap.Load(b)
	if why != api.OK || s == nil {
		t.Fatalf("P13.2: Load of %s: %v, %d, must be one, 0", name, s != nil, int(why))
	}
	if got := s.Save(); !bytes.Equal(got, b) {
		t.Fatalf("P13.2: Save of what was read of %s:\n% x, must be\n% x", name, got, b)
	}
	return s
}

// loadsNone holds that b is refused, by this number alone.
func loadsNone(t *testing.T, name string, b []byte) {
	t.Helper()
	if s, why := snap.Load(b); why != api.ErrForm || s != nil {
		t.Errorf("P13.2: Load of %s: %v, %d, must be none, %d", name, s != nil, int(why), int(api.ErrForm))
	}
}

// some32 are 32 bytes; hashes are not reckoned anew.
func some32(x byte) []byte { return bytes.Repeat([]byte{x}, 32) }

// kept is the Save of a tree with a file that is kept.
func kept(t *testing.T) []byte { return some(t, 5).Save() }

// three are bytes as of three snapshots, of which more were taken.
func three(t *testing.T) form {
	return form{next: 9, last: some32(8), all: []was{
		{id: 2, hash: some32(2), tree: tree.New().Save()},
		{id: 3, hash: some32(3), tree: kept(t)},
		{id: 8, hash: some32(8), tree: some(t, 9).Save()},
	}}
}

func TestSaveOfNone(t *testing.T) {
	want := []byte{0, 0, 0, 0, 0, 0, 0, 1, 0, 0, 0}
	if got := snap.New().Save(); !bytes.Equal(got, want) {
		t.Errorf("P13.2: Save of a new one: % x, must be % x", got, want)
	}
	s := loads(t, "a new one", want)
	isAll(t, s)
	takes(t, s, some(t, 5), 1)
	isHash(t, s, 1, hashed(kept(t)))
}

func TestSaveByHand(t *testing.T) {
	none := "0001" + "0010" + "00000200010000000000000000000001" + "0000" + "0000"
	first := hex.EncodeToString(hashed(tree.New().Save()))
	second := hex.EncodeToString(hashed(hashed(tree.New().Save()), tree.New().Save()))
	s := snap.New()
	takes(t, s, tree.New(), 1)
	takes(t, s, tree.New(), 2)
	want := "0000000000000003" + "0020" + second + "02" +
		"0000000000000001" + "0020" + first + "0000000000000018" + none +
		"0000000000000002" + "0020" + second + "0000000000000018" + none
	if got := hex.EncodeToString(s.Save()); got != want {
		t.Errorf("P13.2: Save: %s, must be %s", got, want)
	}
	forgets(t, s, 2, 0, api.OK)
	want = "0000000000000003" + "0020" + second + "01" +
		"0000000000000001" + "0020" + first + "0000000000000018" + none
	if got := hex.EncodeToString(s.Save()); got != want {
		t.Errorf("P13.2: Save: %s, must be %s", got, want)
	}
	forgets(t, s, 1, 0, api.OK)
	want = "0000000000000003" + "0020" + second + "00"
	if got := hex.EncodeToString(s.Save()); got != want {
		t.Errorf("P13.2: Save: %s, must be %s", got, want)
	}
	back := loads(t, "what has none any more", s.Save())
	takes(t, back, tree.New(), 3)
	last, _ := hex.DecodeString(second)
	isHash(t, back, 3, hashed(last, tree.New().Save()))
}

func TestSaveOfALongTree(t *testing.T) {
	tr := tree.New()
	for i := range 40 {
		id := makes(t, tr, "/f"+strings.Repeat("x", i%9)+string(rune('a'+i%26)), file)
		does(t, "Append", tr.Append(id, bytes.Repeat([]byte{byte(i)}, 4096)))
		does(t, "Seal", tr.Seal(id, 5))
	}
	if n := len(tr.Save()); n <= 65535 {
		t.Fatalf("the tree has %d bytes: too few", n)
	}
	s := snap.New()
	for i := range mostSnaps {
		takes(t, s, tr, i+1)
	}
	back := loads(t, "long trees", s.Save())
	for i := range mostSnaps {
		isSnap(t, back, i+1, tr)
	}
}

func TestSaveIsTheSameAgain(t *testing.T) {
	s := loads(t, "three", three(t).bytes())
	for range 3 {
		isForm(t, s, three(t))
		s.Get(3)
		s.Hash(3)
		s.All()
		s.Forget(3, 0)
		s.Forget(1, 0)
		s.Take(nil)
	}
}

func TestLoadOfThree(t *testing.T) {
	s := loads(t, "three", three(t).bytes())
	isAll(t, s, 2, 3, 8)
	isSnap(t, s, 2, tree.New())
	isSnap(t, s, 3, some(t, 5))
	isSnap(t, s, 8, some(t, 9))
	isHash(t, s, 2, some32(2))
	isHash(t, s, 3, some32(3))
	isHash(t, s, 8, some32(8))
	for _, id := range append(noIDs(), 1, 4, 7, 9) {
		isGone(t, s, id)
	}
	// It goes on from there.
	forgets(t, s, 3, 4, api.ErrKept)
	forgets(t, s, 3, 5, api.OK)
	forgets(t, s, 8, 9, api.OK)
	takes(t, s, some(t, 1), 9)
	isHash(t, s, 9, hashed(some32(8), some(t, 1).Save()))
	isAll(t, s, 2, 9)
	loads(t, "what became of three", s.Save())
}

// R2: neither the bytes nor the room behind them are changed or kept.
func TestLoadKeepsNothing(t *testing.T) {
	room := append(three(t).bytes(), 1, 2, 3)
	was := bytes.Clone(room)
	b := room[:len(room)-3]
	s := loads(t, "three", b)
	takes(t, s, tree.New(), 9)
	forgets(t, s, 9, 0, api.OK)
	if !bytes.Equal(room, was) {
		t.Error("R2: Load, or a call behind it, has changed the bytes")
	}
	clear(room)
	isHash(t, s, 2, some32(2))
	isSnap(t, s, 3, some(t, 5))
	s = loads(t, "three", three(t).bytes())
	isForm(t, s, three(t))
}

func TestWhatIsReadIsByItself(t *testing.T) {
	b := three(t).bytes()
	one, two := loads(t, "three", b), loads(t, "three", b)
	forgets(t, one, 2, 0, api.OK)
	takes(t, one, some(t, 1), 9)
	isForm(t, two, three(t))
	takes(t, two, tree.New(), 9)
	isHash(t, one, 9, hashed(some32(8), some(t, 1).Save()))
}

func TestLoadAtTheEdges(t *testing.T) {
	one := func(id uint64) []was { return []was{{id: id, hash: some32(7), tree: kept(t)}} }
	for _, c := range []struct {
		name string
		f    form
	}{
		{"all are forgotten", form{next: 2, last: some32(1)}},
		{"many are forgotten", form{next: 1 << 32, last: some32(1)}},
		{"the greatest next", form{next: lastTime, last: some32(1)}},
		{"the first alone", form{next: 2, last: some32(7), all: one(1)}},
		{"the first of many", form{next: lastTime, last: some32(1), all: one(1)}},
		{"the last of many", form{next: lastTime, last: some32(7), all: one(lastTime - 1)}},
		{"a last Hash of noughts", form{next: 2, last: some32(0)}},
		{"hashes that are the same", form{next: 9, last: some32(7), all: []was{{id: 1, hash: some32(7), tree: kept(t)}, {id: 5, hash: some32(7), tree: kept(t)}}}},
		{"a last Hash that is not the last one's", form{next: 3, last: some32(1), all: one(2)}},
	} {
		loads(t, c.name, c.f.bytes())
	}
	s := loads(t, "the greatest next", form{next: lastTime, last: some32(1)}.bytes())
	takes(t, s, tree.New(), lastTime)
	isAll(t, s, lastTime)
	isHash(t, s, lastTime, hashed(some32(1), tree.New().Save()))
	forgets(t, s, lastTime, 0, api.OK)
}

func TestLoadOfWrongHeads(t *testing.T) {
	one := []was{{id: 1, hash: some32(7), tree: kept(t)}}
	for _, c := range []struct {
		name string
		f    form
	}{
		{"next 0", form{}},
		{"next 0 with a last Hash", form{last: some32(1)}},
		{"next 1 with a last Hash", form{next: 1, last: some32(1)}},
		{"next 1 with a last Hash of 31 bytes", form{next: 1, last: some32(1)[:31]}},
		{"next 1 with a last Hash of one byte", form{next: 1, last: []byte{0}}},
		{"next 2 without a last Hash", form{next: 2}},
		{"next 9 without a last Hash", form{next: 9}},
		{"the greatest next without a last Hash", form{next: lastTime}},
		{"next 2 with one, without a last Hash", form{next: 2, all: one}},
		{"a last Hash of 31 bytes", form{next: 2, last: some32(1)[:31]}},
		{"a last Hash of one byte", form{next: 2, last: []byte{1}}},
		{"a last Hash of 33 bytes", form{next: 2, last: append(some32(1), 1)}},
		{"a last Hash of 64 bytes", form{next: 2, last: append(some32(1), some32(2)...)}},
		{"next above MaxTime", form{next: lastTime + 1, last: some32(1)}},
		{"next above MaxTime, with one", form{next: lastTime + 1, last: some32(1), all: one}},
		{"next that an int can't tell", form{next: 1 << 63, last: some32(1)}},
		{"next that an int can't tell, with one", form{next: math.MaxUint64, last: some32(1), all: one}},
		{"one more is told", form{next: 2, last: some32(7), all: one, many: 1}},
		{"one less is told", form{next: 2, last: some32(7), all: one, many: -1}},
		{"one of none is told", form{next: 1, many: 1}},
		{"255 of none are told", form{next: 300, last: some32(1), many: 255}},
		{"a nought stands behind", form{next: 2, last: some32(7), all: one, more: []byte{0}}},
		{"another one stands behind", form{next: 1, more: snap.New().Save()}},
	} {
		loadsNone(t, c.name, c.f.bytes())
	}
	loadsNone(t, "nil", nil)
	loadsNone(t, "nothing", []byte{})
	loadsNone(t, "noughts", make([]byte, 100))
	loadsNone(t, "255s", bytes.Repeat([]byte{255}, 1000))
	loadsNone(t, "a tree", tree.New().Save())
}

func TestLoadOfWrongIDs(t *testing.T) {
	of := func(next uint64, ids ...uint64) form {
		f := form{next: next, last: some32(1)}
		for _, id := range ids {
			f.all = append(f.all, was{id: id, hash: some32(7), tree: kept(t)})
		}
		return f
	}
	loads(t, "rising", of(9, 1, 2, 8).bytes())
	for _, c := range []struct {
		name string
		f    form
	}{
		{"an ID that is 0", of(9, 0)},
		{"an ID that is 0, ahead of others", of(9, 0, 1, 2)},
		{"an ID that is 0, behind another", of(9, 1, 0)},
		{"an ID that is the next", of(9, 9)},
		{"a last ID that is the next", of(9, 1, 2, 9)},
		{"an ID above the next", of(9, 10)},
		{"an ID above the next, ahead of another", of(9, 10, 11)},
		{"an ID where none was taken", form{next: 1, all: of(1, 1).all}},
		{"an ID that comes twice", of(9, 1, 1)},
		{"a last ID that comes twice", of(9, 1, 3, 3)},
		{"an ID that falls", of(9, 2, 1)},
		{"a last ID that falls", of(9, 2, 5, 4)},
		{"an ID of MaxTime", of(lastTime, lastTime)},
		{"an ID above MaxTime", of(lastTime, lastTime+1)},
		{"an ID of 32 bits and one", of(9, 1<<32+1)},
		{"an ID of 2^63", of(9, 1<<63)},
		{"an ID of 2^63 and one", of(9, 1<<63+1)},
		{"an ID of 64 bits", of(9, math.MaxUint64)},
		{"an ID of 64 bits ahead of others", of(9, math.MaxUint64, 1, 2)},
	} {
		loadsNone(t, c.name, c.f.bytes())
	}
}

func TestLoadOfWrongHashes(t *testing.T) {
	for i := range 3 {
		for _, n := range []int{0, 1, 16, 31, 33, 64, 1000} {
			f := three(t)
			f.all[i].hash = bytes.Repeat([]byte{5}, n)
			loadsNone(t, "a Hash of another length", f.bytes())
		}
		f := three(t)
		f.all[i].hash = some32(0)
		loads(t, "a Hash of noughts", f.bytes())
	}
}

func TestLoadOfWrongTrees(t *testing.T) {
	open := some(t, 5)
	opens(t, open, "/o")
	nameless := some(t, 5)
	opens(t, nameless, "/o")
	does(t, "Unlink", nameless.Unlink(names("/o")))
	good := kept(t)
	for i := range 3 {
		for name, b := range map[string][]byte{
			"an open file":           open.Save(),
			"a nameless file":        nameless.Save(),
			"an open file with time": image(api.Node{ID: 1, Kind: file, Links: 1, Until: 5}),
			"an open file far off":   image(api.Node{ID: 65535, Kind: file, Links: 2}),
			"no bytes":               nil,
			"one byte":               {0},
			"no nodes":               {0, 0},
			"bytes cut off":          good[:len(good)-1],
			"a nought behind":        append(bytes.Clone(good), 0),
			"two trees":              append(bytes.Clone(good), good...),
		} {
			f := three(t)
			f.all[i].tree = b
			loadsNone(t, name, f.bytes())
		}
		f := three(t)
		f.all[i].tree = image(api.Node{ID: 65535, Kind: file, Links: 2, Until: 5, Closed: true})
		loads(t, "a tree of far IDs", f.bytes())
	}
}

func TestLoadOfWrongLengths(t *testing.T) {
	for i := range 3 {
		for _, more := range []uint64{1, 2, 255, 256, 65536, 1 << 32, 1 << 62, 1 << 63, math.MaxUint64, math.MaxUint64 - 1, math.MaxUint64 - 23} {
			f := three(t)
			f.all[i].size = more
			loadsNone(t, "a tree of another length", f.bytes())
		}
	}
}

func TestLoadOfMaxSnaps(t *testing.T) {
	f := form{next: 100, last: some32(1)}
	for id := 1; id <= 20; id++ {
		f.all = append(f.all, was{id: uint64(id), hash: some32(7), tree: tree.New().Save()})
		if id > mostSnaps {
			loadsNone(t, "too many", f.bytes())
			continue
		}
		s := loads(t, "some", f.bytes())
		if id == mostSnaps {
			takesNone(t, s, tree.New(), api.ErrMany)
		} else {
			takes(t, s, tree.New(), 100)
		}
	}
	f.all = slices.Repeat(f.all[:1], 255)
	for i := range f.all {
		f.all[i].id = uint64(i + 1)
	}
	f.next = 1000
	loadsNone(t, "255", f.bytes())
}

func TestLoadOfBytesThatAreCutOff(t *testing.T) {
	b := three(t).bytes()
	for n := range b {
		loadsNone(t, "bytes that are cut off", b[:n])
		// Room behind the length is not read.
		loadsNone(t, "bytes that are cut off", bytes.Clone(b[:n]))
	}
	for n := range snap.New().Save() {
		loadsNone(t, "bytes that are cut off", snap.New().Save()[:n])
	}
}

// cutting takes a Save apart.
type cutting struct {
	rest []byte
	bad  bool
}

func (c *cutting) take(n uint64) []byte {
	if n > uint64(len(c.rest)) {
		c.bad, c.rest = true, nil
		return make([]byte, min(n, 8))
	}
	b := c.rest[:n]
	c.rest = c.rest[n:]
	return b
}

func (c *cutting) long() uint64 { return binary.BigEndian.Uint64(c.take(8)) }

func (c *cutting) bytes() []byte { return c.take(uint64(binary.BigEndian.Uint16(c.take(2)))) }

// good is the chapter's sentence on Load, word for word.
func good(b []byte) bool {
	c := &cutting{rest: b}
	next, last, n := c.long(), c.bytes(), int(c.take(1)[0])
	if c.bad || next == 0 || next > lastTime || n > mostSnaps {
		return false
	}
	if next == 1 && len(last) != 0 || next > 1 && len(last) != 32 {
		return false
	}
	ahead := uint64(0)
	for range n {
		id, hash, saved := c.long(), c.bytes(), c.take(c.long())
		if c.bad || id >= next || id <= ahead || len(hash) != 32 {
			return false
		}
		tr, why := tree.Load(saved)
		if why != api.OK || !bytes.Equal(told(tr), saved) {
			return false
		}
		ahead = id
	}
	return len(c.rest) == 0
}

// isGood holds Load against the chapter's sentence.
func isGood(t *testing.T, b []byte) bool {
	t.Helper()
	if good(b) {
		loads(t, "what is one", b)
		return true
	}
	loadsNone(t, "what is none", b)
	return false
}

func TestLoadOfEachByteTurned(t *testing.T) {
	b := three(t).bytes()
	read := 0
	for i := range b {
		for _, x := range []byte{1, 2, 3, 7, 32, 128, 255} {
			turned := bytes.Clone(b)
			turned[i] ^= x
			if isGood(t, turned) {
				read++
			}
		}
		if t.Failed() {
			t.Fatalf("at %d: % x", i, b)
		}
	}
	// Hashes at least may be any.
	if read < 4*32*7 {
		t.Errorf("of the turned bytes %d are read: too few", read)
	}
}

// grown are the bytes of some snapshots.
func grown(r *rand.Rand) form {
	f := form{next: 1}
	for range r.Intn(5) {
		f.next += uint64(1 + r.Intn(3)*r.Intn(2))
		f.last = some32(byte(r.Intn(256)))
		tr := tree.New()
		for range r.Intn(20) {
			someStep(r, tr)
		}
		if r.Intn(3) > 0 {
			f.all = append(f.all, was{id: f.next - 1, hash: f.last, tree: told(tr)})
		}
	}
	return f
}

// broken is f with something else than it was; it may still be one.
func broken(r *rand.Rand, f form) form {
	switch r.Intn(12) {
	case 0:
		f.next = uint64(r.Intn(9))
	case 1:
		f.next = uint64(lastTime - 1 + r.Intn(3))
	case 2:
		f.last = make([]byte, []int{0, 0, 31, 32, 32, 33}[r.Intn(6)])
	case 3:
		f.many = r.Intn(3) - 1
	case 4:
		f.more = make([]byte, r.Intn(3))
	}
	if len(f.all) == 0 {
		return f
	}
	i, j := r.Intn(len(f.all)), r.Intn(len(f.all))
	switch r.Intn(9) {
	case 0:
		f.all[i].id = uint64(r.Intn(12))
	case 1:
		f.all[i].id = f.next
	case 2:
		f.all[i].hash = make([]byte, []int{0, 31, 32, 33}[r.Intn(4)])
	case 3:
		f.all[i].size = uint64(r.Intn(3)) - 1
	case 4:
		f.all[i], f.all[j] = f.all[j], f.all[i]
	case 5:
		f.all = slices.Delete(f.all, i, i+1)
	case 6:
		f.all = append(f.all, f.all[i])
	case 7, 8:
		tr, why := tree.Load(f.all[i].tree)
		if why == api.OK {
			for range 3 {
				someStep(r, tr)
			}
			f.all[i].tree = tr.Save()
		}
	}
	return f
}

func TestLoadOfManyForms(t *testing.T) {
	r := rand.New(rand.NewSource(132))
	read := 0
	for i := range 3000 {
		f := grown(r)
		for range i % 3 {
			f = broken(r, f)
		}
		if isGood(t, f.bytes()) {
			read++
		}
		if t.Failed() {
			t.Fatalf("%+v", f)
		}
	}
	if read < 800 || read > 2500 {
		t.Errorf("of the random forms %d are read: too few, or too many", read)
	}
}

// model is what the chapter says of snapshots, kept as the form of their Save.
type model struct{ form }

func (m *model) take(saved []byte) (int, api.Errno) {
	if len(m.all) == mostSnaps {
		return 0, api.ErrMany
	}
	m.last = hashed(m.last, saved)
	m.all = append(m.all, was{id: m.next, hash: m.last, tree: saved})
	m.next++
	return int(m.next) - 1, api.OK
}

func (m *model) forget(id int, now uint64) api.Errno {
	for i, x := range m.all {
		if x.id != uint64(id) {
			continue
		}
		tr, _ := tree.Load(x.tree)
		for k := range 64 {
			if n, _ := tr.Node(k); n.Kind == file && now < n.Until {
				return api.ErrKept
			}
		}
		m.all = slices.Delete(m.all, i, i+1)
		return api.OK
	}
	return api.ErrSnap
}

// same holds all that may be asked of snapshots.
func (m *model) same(t *testing.T, s *snap.Snaps) {
	t.Helper()
	isForm(t, s, m.form)
	var ids []int
	for _, x := range m.all {
		ids = append(ids, int(x.id))
		isHash(t, s, int(x.id), x.hash)
		isSnap(t, s, int(x.id), reads(t, x.tree))
	}
	isAll(t, s, ids...)
}

func TestManyCalls(t *testing.T) {
	r := rand.New(rand.NewSource(131))
	for range 20 {
		tr, s, m := tree.New(), snap.New(), &model{form{next: 1}}
		for range 150 {
			someStep(r, tr)
			id, now := r.Intn(int(m.next)+2), uint64(r.Intn(14))
			switch r.Intn(6) {
			case 0, 1:
				want, why := m.take(told(tr))
				if got, no := s.Take(tr); got != want || no != why {
					t.Fatalf("P13.1: Take: %d, %d, must be %d, %d", got, int(no), want, int(why))
				}
			case 2, 3:
				why := m.forget(id, now)
				if got := s.Forget(id, now); got != why {
					t.Fatalf("P13.1: Forget(%d, %d): %d, must be %d", id, now, int(got), int(why))
				}
			case 4:
				if x, ok := s.Get(id); ok {
					someStep(r, x)
				}
			case 5:
				s = loads(t, "what came to be", s.Save())
			}
			m.same(t, s)
		}
	}
}
