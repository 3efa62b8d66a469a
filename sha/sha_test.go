package sha_test

import (
	"bytes"
	"crypto/sha256"
	"encoding/hex"
	"strings"
	"testing"

	"permafrost/sha"
)

// some are n bytes, each unlike its neighbours.
func some(n int) []byte {
	b := make([]byte, n)
	x := uint32(n) + 1
	for i := range b {
		x = x*1664525 + 1013904223
		b[i] = byte(x >> 24)
	}
	return b
}

// wanted is the hash of parts, one behind the other, by another's means.
func wanted(parts ...[]byte) []byte {
	h := sha256.Sum256(bytes.Join(parts, nil))
	return h[:]
}

// lengths are all up to some blocks, with every edge of a word and of a block,
// and a few far ones.
func lengths() []int {
	var all []int
	for n := range 300 {
		all = append(all, n)
	}
	return append(all, 511, 512, 513, 4095, 4096, 4097, 65535, 65536, 1<<20+55, 1<<20+56)
}

func TestKnownSums(t *testing.T) {
	for i, c := range []struct{ text, hash string }{
		{"", "e3b0c44298fc1c149afbf4c8996fb92427ae41e4649b934ca495991b7852b855"},
		{"abc", "ba7816bf8f01cfea414140de5dae2223b00361a396177a9cb410ff61f20015ad"},
		{"abcdbcdecdefdefgefghfghighijhijkijkljklmklmnlmnomnopnopq", "248d6a61d20638b8e5c026930c3e6039a33ce45964ff2167f6ecedd419db06c1"},
		{"abcdefghbcdefghicdefghijdefghijkefghijklfghijklmghijklmnhijklmnoijklmnopjklmnopqklmnopqrlmnopqrsmnopqrstnopqrstu", "cf5b16a778af8380036ce59e7b0492370b249b11e8f07a51afac45037afee9d1"},
		{strings.Repeat("a", 1000000), "cdc76e5c9914fb9281a1c7e284d73e67f1809a48a497200e046d39ccc7112cd0"},
	} {
		if got := hex.EncodeToString(sha.Sum([]byte(c.text))); got != c.hash {
			t.Errorf("P2.1: case %d: %s, must be %s", i, got, c.hash)
		}
	}
	if sha.Size != 32 {
		t.Errorf("P2.1: Size: %d", sha.Size)
	}
}

func TestSumOfEachLength(t *testing.T) {
	for _, n := range lengths() {
		for i, b := range [][]byte{some(n), make([]byte, n), bytes.Repeat([]byte{0xff}, n)} {
			if got := sha.Sum(b); !bytes.Equal(got, wanted(b)) {
				t.Errorf("P2.1: Sum of %d bytes, case %d: %x", n, i, got)
			}
		}
	}
}

func TestLeaf(t *testing.T) {
	for _, n := range lengths() {
		b := some(n)
		if got := sha.Leaf(b); !bytes.Equal(got, wanted([]byte{0}, b)) {
			t.Errorf("P2.1: Leaf of %d bytes: %x", n, got)
		}
	}
}

func TestPair(t *testing.T) {
	for _, n := range []int{0, 1, 2, 3, 4, 5, 31, 32, 33, 54, 55, 56, 62, 63, 64, 65, 130} {
		for _, m := range []int{0, 1, 2, 30, 31, 32, 33, 55, 64, 127} {
			a, b := some(n), some(m)
			if got := sha.Pair(a, b); !bytes.Equal(got, wanted([]byte{1}, a, b)) {
				t.Errorf("P2.1: Pair of %d and %d bytes: %x", n, m, got)
			}
		}
	}
	a, b := sha.Sum([]byte("a")), sha.Sum([]byte("b"))
	if bytes.Equal(sha.Pair(a, b), sha.Pair(b, a)) {
		t.Error("P2.1: Pair turned round is another one")
	}
	if bytes.Equal(sha.Pair(a, b), sha.Leaf(append(bytes.Clone(a), b...))) {
		t.Error("P2.1: a Pair is no Leaf")
	}
}

func TestNothing(t *testing.T) {
	if !bytes.Equal(sha.Sum(nil), wanted()) || !bytes.Equal(sha.Sum([]byte{}), wanted()) {
		t.Error("P2.1: Sum of nothing")
	}
	if !bytes.Equal(sha.Leaf(nil), wanted([]byte{0})) || !bytes.Equal(sha.Pair(nil, nil), wanted([]byte{1})) {
		t.Error("P2.1: Leaf and Pair of nothing")
	}
	s := sha.New()
	if s.Len() != 0 || !bytes.Equal(s.Sum(), wanted()) {
		t.Error("P2.2: a new Stream")
	}
	s.Write(nil)
	s.Write([]byte{})
	if s.Len() != 0 || !bytes.Equal(s.Sum(), wanted()) {
		t.Error("P2.2: a Stream of nothing")
	}
}

// pieces are how long the pieces of a stream are, again and again.
var pieces = [][]int{
	{1}, {2}, {3}, {5}, {7}, {63}, {64}, {65}, {128}, {55, 9}, {56, 8}, {64, 0, 1}, {1, 62, 1, 64}, {60, 200, 3}, {1, 127, 129},
}

func TestStreamInPieces(t *testing.T) {
	b := some(700)
	for i, steps := range pieces {
		s := sha.New()
		for at, k := 0, 0; at < len(b); k++ {
			end := min(at+steps[k%len(steps)], len(b))
			s.Write(b[at:end])
			at = end
			if s.Len() != at {
				t.Fatalf("P2.2: case %d: Len %d, must be %d", i, s.Len(), at)
			}
			if got := s.Sum(); !bytes.Equal(got, wanted(b[:at])) {
				t.Fatalf("P2.2: case %d: Sum at %d: %x", i, at, got)
			}
		}
	}
}

func TestStreamGoesOn(t *testing.T) {
	b := some(300)
	for cut := range b {
		s := sha.New()
		s.Write(b[:cut])
		one, two := s.Sum(), s.Sum()
		if !bytes.Equal(one, two) || !bytes.Equal(one, wanted(b[:cut])) || s.Len() != cut {
			t.Fatalf("P2.2: Sum at %d, twice", cut)
		}
		s.Write(b[cut:])
		if !bytes.Equal(s.Sum(), wanted(b)) || s.Len() != len(b) {
			t.Fatalf("P2.2: a Stream that goes on at %d", cut)
		}
		if !bytes.Equal(one, wanted(b[:cut])) {
			t.Fatalf("R2: an answer is new memory")
		}
	}
}

func TestStreamsByThemselves(t *testing.T) {
	one, two := sha.New(), sha.New()
	one.Write([]byte("one"))
	two.Write([]byte("and two"))
	one.Write([]byte(" more"))
	if one.Len() != 8 || two.Len() != 7 {
		t.Errorf("P2.2: Len: %d, %d", one.Len(), two.Len())
	}
	if !bytes.Equal(one.Sum(), wanted([]byte("one more"))) || !bytes.Equal(two.Sum(), wanted([]byte("and two"))) {
		t.Error("P2.2: two Streams are seen in each other")
	}
}

// whole shows the spare room too.
func whole(b []byte) []byte { return b[:cap(b)] }

func TestWhatIsHandedIn(t *testing.T) {
	for _, n := range []int{0, 1, 3, 55, 64, 100} {
		room := some(200)
		b := room[:n]
		s := sha.New()
		s.Write(b)
		sha.Sum(b)
		sha.Leaf(b)
		sha.Pair(b, b)
		if !bytes.Equal(whole(b), some(200)) {
			t.Fatalf("R2: %d bytes handed in were changed", n)
		}
		clear(room)
		if got := s.Sum(); !bytes.Equal(got, wanted(some(200)[:n])) {
			t.Errorf("R2: %d bytes handed in were kept: %x", n, got)
		}
	}
}

func TestAnswersAreNewMemory(t *testing.T) {
	s := sha.New()
	s.Write([]byte("abc"))
	for name, call := range map[string]func() []byte{
		"Sum":        func() []byte { return sha.Sum([]byte("abc")) },
		"Leaf":       func() []byte { return sha.Leaf([]byte("abc")) },
		"Pair":       func() []byte { return sha.Pair([]byte("abc"), []byte("d")) },
		"Stream.Sum": s.Sum,
	} {
		one := call()
		want := bytes.Clone(one)
		if len(one) != sha.Size {
			t.Errorf("P2.1: %s: %d bytes", name, len(one))
		}
		for i := range whole(one) {
			whole(one)[i] = 0xaa
		}
		if !bytes.Equal(call(), want) {
			t.Errorf("R2: %s: an answer that was written to is seen in the next", name)
		}
	}
}

func TestGreatStream(t *testing.T) {
	if testing.Short() {
		t.Skip("half a gigabyte")
	}
	// more bits than 32 bits can count
	part := some(1 << 20)
	s, h := sha.New(), sha256.New()
	for range 520 {
		s.Write(part)
		h.Write(part)
	}
	if s.Len() != 520<<20 || !bytes.Equal(s.Sum(), h.Sum(nil)) {
		t.Errorf("P2.2: a Stream of %d bytes: %x", s.Len(), s.Sum())
	}
}
