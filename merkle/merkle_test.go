package merkle_test

import (
	"bytes"
	"crypto/sha256"
	"encoding/hex"
	"math"
	"slices"
	"testing"

	"permafrost/api"
	"permafrost/merkle"
	"permafrost/sha"
)

// most is how many leaves the trees of these tests have at most: behind two
// powers of two, on both sides of each.
const most = 35

// some are n bytes that differ for each kind.
func some(n, kind int) []byte {
	x := uint64(n)<<32 + uint64(kind)
	b := make([]byte, n)
	for i := range b {
		x = x*6364136223846793005 + 1442695040888963407
		b[i] = byte(x >> 56)
	}
	return b
}

// tree is n leaves, no two alike, of several lengths.
func tree(n int) [][]byte {
	l := make([][]byte, n)
	for i := range l {
		l[i] = some(i*5%71+2, i)
	}
	return l
}

// whole shows the spare room too.
func whole[T any](l []T) []T { return l[:cap(l)] }

// hashed is SHA-256 of the parts one behind the other, by another's program.
func hashed(parts ...[]byte) []byte {
	h := sha256.Sum256(bytes.Join(parts, nil))
	return h[:]
}

// leaf and pair are what the chapter says of a leaf and of two Roots.
func leaf(b []byte) []byte    { return hashed([]byte{0}, b) }
func pair(a, b []byte) []byte { return hashed([]byte{1}, a, b) }

// rooted is the Root made from below: neighbours are paired, row for row, and
// one that is left over goes up as it is.
func rooted(leaves [][]byte) []byte {
	if len(leaves) == 0 {
		return hashed()
	}
	var row [][]byte
	for _, b := range leaves {
		row = append(row, leaf(b))
	}
	for len(row) > 1 {
		var next [][]byte
		for ; len(row) > 1; row = row[2:] {
			next = append(next, pair(row[0], row[1]))
		}
		row = append(next, row...)
	}
	return row[0]
}

// comes is Check as RFC 9162, 2.1.3.2, goes through it, bit by bit from below.
func comes(root, b []byte, i, n int, path [][]byte) bool {
	if i < 0 || n < 1 || i >= n {
		return false
	}
	at, last, got := i, n-1, leaf(b)
	for _, p := range path {
		if last == 0 {
			return false
		}
		if at&1 == 1 || at == last {
			got = pair(p, got)
			for at&1 == 0 && at != 0 {
				at, last = at>>1, last>>1
			}
		} else {
			got = pair(got, p)
		}
		at, last = at>>1, last>>1
	}
	return last == 0 && bytes.Equal(got, root)
}

// shows is CheckGrown as RFC 9162, 2.1.4.2, goes through it.
func shows(old, root []byte, m, n int, proof [][]byte) bool {
	if m < 1 || m > n {
		return false
	}
	if m == n {
		return len(proof) == 0 && bytes.Equal(old, root)
	}
	if len(proof) == 0 {
		return false
	}
	if m&(m-1) == 0 {
		proof = append([][]byte{old}, proof...)
	}
	at, last := m-1, n-1
	for at&1 == 1 {
		at, last = at>>1, last>>1
	}
	was, is := proof[0], proof[0]
	for _, p := range proof[1:] {
		if last == 0 {
			return false
		}
		if at&1 == 1 || at == last {
			was, is = pair(p, was), pair(p, is)
			for at&1 == 0 && at != 0 {
				at, last = at>>1, last>>1
			}
		} else {
			is = pair(is, p)
		}
		at, last = at>>1, last>>1
	}
	return last == 0 && bytes.Equal(was, old) && bytes.Equal(is, root)
}

// path is what Path makes of a place that is there.
func path(t *testing.T, leaves [][]byte, i int) [][]byte {
	t.Helper()
	p, why := merkle.Path(leaves, i)
	if why != api.OK {
		t.Fatalf("P6.2: Path of %d leaves, %d: %d", len(leaves), i, why)
	}
	return p
}

// grown is what Grown makes of a number that may be.
func grown(t *testing.T, leaves [][]byte, m int) [][]byte {
	t.Helper()
	p, why := merkle.Grown(leaves, m)
	if why != api.OK {
		t.Fatalf("P6.3: Grown of %d leaves, %d: %d", len(leaves), m, why)
	}
	return p
}

// same tells if two lists hold the same rows of bytes.
func same(a, b [][]byte) bool { return slices.EqualFunc(a, b, bytes.Equal) }

// copied is a list with nothing of l's memory.
func copied(l [][]byte) [][]byte {
	c := make([][]byte, len(l))
	for i, b := range l {
		c[i] = bytes.Clone(b)
	}
	return c
}

// known are the leaves and the Roots of the first so many that other programs
// of RFC 6962 are tested with.
func known() (leaves [][]byte, roots []string) {
	for _, s := range []string{"", "00", "10", "2021", "3031", "40414243", "5051525354555657", "606162636465666768696a6b6c6d6e6f"} {
		b, _ := hex.DecodeString(s)
		leaves = append(leaves, b)
	}
	return leaves, []string{
		"e3b0c44298fc1c149afbf4c8996fb92427ae41e4649b934ca495991b7852b855",
		"6e340b9cffb37a989ca544e6bb780a2c78901d3fb33738768511a30617afa01d",
		"fac54203e7cc696cf0dfcb42c92a1d9dbaf70ad9e621f4bd8d98662f00e3c125",
		"aeb6bcfe274b70a14fb067a5e5578264db0fa9b51af5e0ba159158f329e06e77",
		"d37ee418976dd95753c1c73862b9398fa2a2cf9b4ff0fdfe8b30cd95209614b7",
		"4e3bbb1f7b478dcfe71fb631631519a3bca12c9aefca1612bfce4c13a86264d4",
		"76e67dadbcdf1e10e1b74ddc608abd2f98dfb16fbce75277b5232a127f2087ef",
		"ddb89be403809e325750d3d263cd78929c2942b7942a34b77e122c9594a74c8c",
		"5dc9da79a70659a9ad559cb701ded9a2ab9d823aad2f4960cfe370eff4604328",
	}
}

// uglyInts are numbers that no tree of these tests has.
func uglyInts() []int {
	return []int{math.MinInt, math.MinInt + 1, -1 << 32, -most, -2, -1, most + 1, 1 << 31, 1 << 32, 1 << 62, math.MaxInt - 1, math.MaxInt}
}

func TestRuns(t *testing.T) {
	p, why := merkle.Path([][]byte{[]byte("alone")}, 0)
	if len(p) != 0 || why != api.OK {
		t.Errorf("Path of one leaf: %x, %d, must be empty, %d", p, why, api.OK)
	}
}

func TestExamples(t *testing.T) {
	for n := 1; n <= most; n++ {
		if p := grown(t, tree(n), n); len(p) != 0 {
			t.Errorf("P6.3: Grown of all %d: %x, must be empty", n, p)
		}
	}
	b := some(9, 0)
	for _, root := range [][]byte{merkle.Root(nil), sha.Leaf(b), nil} {
		if merkle.Check(root, b, 0, 0, nil) {
			t.Errorf("P6.2: Check with n 0, root %x: true", root)
		}
	}
}

func TestRootsThatAreKnown(t *testing.T) {
	leaves, roots := known()
	for n, want := range roots {
		if got := hex.EncodeToString(merkle.Root(leaves[:n])); got != want {
			t.Errorf("P6.1: Root of %d: %s, must be %s", n, got, want)
		}
	}
}

func TestRootOfFew(t *testing.T) {
	for _, none := range [][][]byte{nil, {}} {
		if got := merkle.Root(none); !bytes.Equal(got, sha.Sum(nil)) {
			t.Errorf("P6.1: Root of none: %x", got)
		}
	}
	for _, b := range [][]byte{nil, {}, {0}, some(200, 1)} {
		if got := merkle.Root([][]byte{b}); !bytes.Equal(got, sha.Leaf(b)) {
			t.Errorf("P6.1: Root of one, % x: %x", b, got)
		}
	}
	a, b, c := some(3, 1), some(4, 2), some(5, 3)
	want := sha.Pair(sha.Pair(sha.Leaf(a), sha.Leaf(b)), sha.Leaf(c))
	if got := merkle.Root([][]byte{a, b, c}); !bytes.Equal(got, want) {
		t.Errorf("P6.1: Root of three: %x, must be %x", got, want)
	}
}

func TestRootOfMany(t *testing.T) {
	for _, n := range []int{63, 64, 65, 127, 128, 129, 1000, 4095, 4096, 4097} {
		if got, want := merkle.Root(tree(n)), rooted(tree(n)); !bytes.Equal(got, want) {
			t.Errorf("P6.1: Root of %d: %x, must be %x", n, got, want)
		}
	}
	for n := range most {
		if got, want := merkle.Root(tree(n)), rooted(tree(n)); !bytes.Equal(got, want) {
			t.Errorf("P6.1: Root of %d: %x, must be %x", n, got, want)
		}
	}
}

// Leaves that are all alike, or empty, are leaves as others are.
func TestLeavesThatAreAlike(t *testing.T) {
	for n := 1; n <= 9; n++ {
		for _, b := range [][]byte{nil, {}, some(8, 8)} {
			l := slices.Repeat([][]byte{b}, n)
			root := merkle.Root(l)
			if !bytes.Equal(root, rooted(l)) {
				t.Errorf("P6.1: Root of %d times % x: %x", n, b, root)
			}
			for i := range n {
				if !merkle.Check(root, b, i, n, path(t, l, i)) {
					t.Errorf("P6.4: Check of %d of %d times % x: false", i, n, b)
				}
			}
			for m := 1; m <= n; m++ {
				if !merkle.CheckGrown(merkle.Root(l[:m]), root, m, n, grown(t, l, m)) {
					t.Errorf("P6.4: CheckGrown of %d of %d times % x: false", m, n, b)
				}
			}
		}
	}
}

// The paths that RFC 6962, 2.1.3, draws for seven leaves.
func TestPathsOfTheBook(t *testing.T) {
	l := tree(7)
	r := func(from, to int) []byte { return rooted(l[from:to]) }
	for i, want := range map[int][][]byte{
		0: {r(1, 2), r(2, 4), r(4, 7)},
		3: {r(2, 3), r(0, 2), r(4, 7)},
		4: {r(5, 6), r(6, 7), r(0, 4)},
		6: {r(4, 6), r(0, 4)},
	} {
		if got := path(t, l, i); !same(got, want) {
			t.Errorf("P6.2: Path of %d of 7: %x, must be %x", i, got, want)
		}
	}
}

// The proofs that RFC 6962, 2.1.3, draws for seven leaves.
func TestProofsOfTheBook(t *testing.T) {
	l := tree(7)
	r := func(from, to int) []byte { return rooted(l[from:to]) }
	for m, want := range map[int][][]byte{
		3: {r(2, 3), r(3, 4), r(0, 2), r(4, 7)},
		4: {r(4, 7)},
		6: {r(4, 6), r(6, 7), r(0, 4)},
	} {
		if got := grown(t, l, m); !same(got, want) {
			t.Errorf("P6.3: Grown of %d of 7: %x, must be %x", m, got, want)
		}
	}
}

// parted goes down a tree as the chapter says, and tells the Roots of the other
// parts, from below.
func parted(l [][]byte, i int) [][]byte {
	if len(l) == 1 {
		return nil
	}
	k := 1
	for 2*k < len(l) {
		k *= 2
	}
	if i < k {
		return append(parted(l[:k], i), rooted(l[k:]))
	}
	return append(parted(l[k:], i-k), rooted(l[:k]))
}

func TestPathOfEachPlace(t *testing.T) {
	for n := 1; n <= most; n++ {
		l := tree(n)
		root := merkle.Root(l)
		for i := range n {
			p := path(t, l, i)
			if !same(p, parted(l, i)) {
				t.Errorf("P6.2: Path of %d of %d: %x, must be %x", i, n, p, parted(l, i))
			}
			if !merkle.Check(root, l[i], i, n, p) || !comes(root, l[i], i, n, p) {
				t.Errorf("P6.4: Check of %d of %d: not checked", i, n)
			}
		}
	}
}

func TestPathOfNoPlace(t *testing.T) {
	for n := range most {
		for _, i := range append(uglyInts(), n, n+1, 2*n+1) {
			if p, why := merkle.Path(tree(n), i); len(p) != 0 || why != api.ErrArg {
				t.Errorf("P6.2: Path of %d of %d: %x, %d, must be none, %d", i, n, p, why, api.ErrArg)
			}
		}
	}
	if p, why := merkle.Path(nil, 0); len(p) != 0 || why != api.ErrArg {
		t.Errorf("P6.2: Path of none: %x, %d, must be none, %d", p, why, api.ErrArg)
	}
}

func TestGrownOfEachNumber(t *testing.T) {
	for n := 1; n <= most; n++ {
		l := tree(n)
		root := merkle.Root(l)
		for m := 1; m <= n; m++ {
			p := grown(t, l, m)
			old := merkle.Root(l[:m])
			if !merkle.CheckGrown(old, root, m, n, p) || !shows(old, root, m, n, p) {
				t.Errorf("P6.4: CheckGrown of %d of %d: not checked", m, n)
			}
		}
	}
}

func TestGrownOfNoNumber(t *testing.T) {
	for n := range most {
		for _, m := range append(uglyInts(), 0, n+1, 2*n+1) {
			if p, why := merkle.Grown(tree(n), m); len(p) != 0 || why != api.ErrArg {
				t.Errorf("P6.3: Grown of %d of %d: %x, %d, must be none, %d", m, n, p, why, api.ErrArg)
			}
		}
	}
	if p, why := merkle.Grown(nil, 0); len(p) != 0 || why != api.ErrArg {
		t.Errorf("P6.3: Grown of none: %x, %d, must be none, %d", p, why, api.ErrArg)
	}
}

// spoiled are lists that differ from l: one byte turned, a part more, a part
// fewer, two in the other order, bytes moved from one part to the next, a part
// that is cut.
func spoiled(l [][]byte) [][][]byte {
	out := [][][]byte{append(copied(l), some(sha.Size, 1)), append([][]byte{some(sha.Size, 2)}, l...), append(copied(l), nil), append([][]byte{nil}, l...)}
	for i := range l {
		for _, at := range []int{0, sha.Size / 2, sha.Size - 1} {
			c := copied(l)
			c[i][at] ^= 1
			out = append(out, c)
		}
		cut, long, twice := copied(l), copied(l), copied(l)
		cut[i] = cut[i][:sha.Size-1]
		long[i] = append(long[i], 0)
		twice = slices.Insert(twice, i, twice[i])
		out = append(out, slices.Delete(copied(l), i, i+1), cut, long, twice)
		if i > 0 {
			turned, moved := copied(l), copied(l)
			turned[i], turned[i-1] = turned[i-1], turned[i]
			moved[i-1] = append(moved[i-1], moved[i][0])
			moved[i] = moved[i][1:]
			out = append(out, turned, moved)
		}
	}
	return out
}

// turned are hashes that are not h.
func turned(h []byte) [][]byte {
	first, last := bytes.Clone(h), bytes.Clone(h)
	first[0] ^= 0x80
	last[len(last)-1] ^= 1
	return [][]byte{nil, {}, first, last, h[:len(h)-1], append(bytes.Clone(h), 0), make([]byte, sha.Size)}
}

func TestCheckOfAnotherPath(t *testing.T) {
	for n := 1; n <= 20; n++ {
		l := tree(n)
		root := merkle.Root(l)
		for i := range n {
			p := path(t, l, i)
			for _, x := range spoiled(p) {
				if merkle.Check(root, l[i], i, n, x) {
					t.Errorf("P6.2: Check of %d of %d with %x for %x: true", i, n, x, p)
				}
			}
			for _, x := range turned(root) {
				if merkle.Check(x, l[i], i, n, p) {
					t.Errorf("P6.2: Check of %d of %d with root %x for %x: true", i, n, x, root)
				}
			}
		}
	}
}

func TestCheckOfAnotherLeaf(t *testing.T) {
	for n := 1; n <= 20; n++ {
		l := tree(n)
		root := merkle.Root(l)
		for i := range n {
			p := path(t, l, i)
			for j := range n {
				if i != j && merkle.Check(root, l[j], i, n, p) {
					t.Errorf("P6.4: Check of %d of %d with leaf %d: true", i, n, j)
				}
			}
			for _, x := range [][]byte{nil, l[i][1:], append([]byte{0}, l[i]...), append(bytes.Clone(l[i]), 0), leaf(l[i])} {
				if merkle.Check(root, x, i, n, p) {
					t.Errorf("P6.4: Check of %d of %d with leaf % x: true", i, n, x)
				}
			}
		}
	}
}

// A pair's two hashes are no leaf one row further up.
func TestAPairIsNoLeaf(t *testing.T) {
	l := tree(8)
	root, p := merkle.Root(l), path(t, l, 0)
	up := append(leaf(l[0]), p[0]...)
	if merkle.Check(root, up, 0, 4, p[1:]) || merkle.Check(root, append([]byte{1}, up...), 0, 4, p[1:]) {
		t.Error("P6.4: Check of two hashes as one leaf: true")
	}
}

// What Check says of a path that was made for another place, or of as many
// others, is what another program says.
func TestCheckOfAnotherPlace(t *testing.T) {
	for n := 1; n <= 18; n++ {
		l := tree(n)
		root := merkle.Root(l)
		for i := range n {
			p := path(t, l, i)
			for ofAll := range 20 {
				for at := -1; at <= 20; at++ {
					want := comes(root, l[i], at, ofAll, p)
					if got := merkle.Check(root, l[i], at, ofAll, p); got != want {
						t.Errorf("P6.2: Check of %d of %d as %d of %d: %t, must be %t", i, n, at, ofAll, got, want)
					}
					if want && ofAll == n && at != i {
						t.Errorf("P6.4: Check of %d of %d as %d: true", i, n, at)
					}
				}
			}
		}
	}
}

func TestCheckOfNoPlace(t *testing.T) {
	for n := 1; n <= 9; n++ {
		l := tree(n)
		root := merkle.Root(l)
		for _, i := range append(uglyInts(), n) {
			for at := range n {
				if merkle.Check(root, l[at], i, n, path(t, l, at)) {
					t.Errorf("P6.2: Check of %d of %d: true", i, n)
				}
			}
		}
		for _, of := range []int{math.MinInt, -n, -1, 0} {
			for _, i := range []int{math.MinInt, -n, -1, 0, 1} {
				if merkle.Check(root, l[0], i, of, path(t, l, 0)) {
					t.Errorf("P6.2: Check of %d of %d: true", i, of)
				}
			}
		}
	}
}

// A tree may be greater than any that is in one's hand.
func TestCheckOfAGreatTree(t *testing.T) {
	b := some(40, 1)
	for _, c := range []struct {
		i, n int
		side []bool // from the leaf up: is it the right one of the pair?
	}{
		{1 << 62, 1<<62 + 1, []bool{true}},
		{1 << 40, 1<<40 + 2, []bool{false, true}},
		{0, 1 << 62, make([]bool, 62)},
		{0, math.MaxInt, make([]bool, 63)},
		{math.MaxInt - 1, math.MaxInt, slices.Repeat([]bool{true}, 62)},
		{1<<62 - 1, math.MaxInt, append(slices.Repeat([]bool{true}, 62), false)},
	} {
		root := leaf(b)
		p := make([][]byte, len(c.side))
		for j, right := range c.side {
			p[j] = some(sha.Size, j)
			if right {
				root = pair(p[j], root)
			} else {
				root = pair(root, p[j])
			}
		}
		if !merkle.Check(root, b, c.i, c.n, p) {
			t.Errorf("P6.2: Check of %d of %d, by a path of %d: false", c.i, c.n, len(p))
		}
		if merkle.Check(root, b, c.i, c.n, p[1:]) || merkle.Check(root, b, c.i, c.n, append(copied(p), p[0])) {
			t.Errorf("P6.2: Check of %d of %d, by a path of another length: true", c.i, c.n)
		}
	}
	// The proof for 2^62 leaves and one more is that one's hash.
	old := some(sha.Size, 3)
	if !merkle.CheckGrown(old, pair(old, leaf(b)), 1<<62, 1<<62+1, [][]byte{leaf(b)}) {
		t.Error("P6.3: CheckGrown of 2^62 of one more: false")
	}
}

func TestCheckGrownOfAnotherProof(t *testing.T) {
	for n := 1; n <= 20; n++ {
		l := tree(n)
		root := merkle.Root(l)
		for m := 1; m <= n; m++ {
			p, old := grown(t, l, m), merkle.Root(l[:m])
			for _, x := range spoiled(p) {
				if merkle.CheckGrown(old, root, m, n, x) {
					t.Errorf("P6.3: CheckGrown of %d of %d with %x for %x: true", m, n, x, p)
				}
			}
			for _, x := range turned(root) {
				if merkle.CheckGrown(old, x, m, n, p) {
					t.Errorf("P6.3: CheckGrown of %d of %d with root %x: true", m, n, x)
				}
			}
			for _, x := range turned(old) {
				if merkle.CheckGrown(x, root, m, n, p) {
					t.Errorf("P6.3: CheckGrown of %d of %d with old %x: true", m, n, x)
				}
			}
		}
	}
}

// A proof made for another beginning shows nothing: one leaf is another.
func TestCheckGrownOfAnotherLeaf(t *testing.T) {
	for n := 2; n <= 20; n++ {
		l := tree(n)
		root := merkle.Root(l)
		for m := 1; m <= n; m++ {
			for i := range m {
				other := copied(l)
				other[i][0] ^= 1
				old := merkle.Root(other[:m])
				for _, p := range [][][]byte{grown(t, l, m), grown(t, other, m)} {
					if merkle.CheckGrown(old, root, m, n, p) {
						t.Errorf("P6.4: CheckGrown of %d of %d where leaf %d is another: true", m, n, i)
					}
				}
			}
		}
	}
}

func TestCheckGrownOfOtherNumbers(t *testing.T) {
	for n := 1; n <= 14; n++ {
		l := tree(n)
		root := merkle.Root(l)
		for m := 1; m <= n; m++ {
			p, old := grown(t, l, m), merkle.Root(l[:m])
			for to := -1; to <= 18; to++ {
				for from := -1; from <= 18; from++ {
					want := shows(old, root, from, to, p)
					if got := merkle.CheckGrown(old, root, from, to, p); got != want {
						t.Errorf("P6.3: CheckGrown of %d of %d as %d of %d: %t, must be %t", m, n, from, to, got, want)
					}
				}
			}
			for _, x := range append(uglyInts(), 0, n+1) {
				if merkle.CheckGrown(old, root, x, n, p) {
					t.Errorf("P6.3: CheckGrown of %d of %d: true", x, n)
				}
			}
		}
	}
}

// Bytes that go from the end of one part to the beginning of the next leave
// what is hashed of both as it was: no tree has such a Root, so it shows none.
func TestCheckGrownOfWhatIsNoHash(t *testing.T) {
	l := tree(4)
	root := merkle.Root(l)
	c, d, g := leaf(l[2]), leaf(l[3]), pair(leaf(l[0]), leaf(l[1]))
	for k := range sha.Size {
		both := append(bytes.Clone(c), d...)
		lower, next := both[:k], both[k:]
		if merkle.CheckGrown(pair(g, lower), root, 3, 4, [][]byte{lower, next, g}) {
			t.Errorf("P6.3: CheckGrown of 3 of 4 with a part of %d bytes: true", k)
		}
		all := append(bytes.Clone(g), pair(c, d)...)
		if merkle.CheckGrown(all[:k], root, 2, 4, [][]byte{all[k:]}) {
			t.Errorf("P6.3: CheckGrown with an old of %d bytes: true", k)
		}
	}
	for _, x := range [][]byte{nil, {}, some(31, 0), some(33, 0)} {
		if merkle.CheckGrown(x, x, 1, 1, nil) {
			t.Errorf("P6.3: CheckGrown of % x, which no tree has as its Root: true", x)
		}
	}
}

// A proof without its lowest part shows nothing, not even to Roots that it comes
// to where that part is empty.
func TestCheckGrownOfAProofTooShort(t *testing.T) {
	d, g := some(sha.Size, 1), some(sha.Size, 2)
	old, root := pair(g, nil), pair(g, pair(nil, d))
	if merkle.CheckGrown(old, root, 3, 4, [][]byte{d, g}) {
		t.Error("P6.3: CheckGrown of 3 of 4 by two parts: true")
	}
	if merkle.CheckGrown(pair(d, nil), pair(d, nil), 3, 4, [][]byte{d}) {
		t.Error("P6.3: CheckGrown of 3 of 4 by one part: true")
	}
}

func TestAnythingEnds(t *testing.T) {
	defer func() {
		if x := recover(); x != nil {
			t.Errorf("R1: a call panicked: %v", x)
		}
	}()
	numbers := append(uglyInts(), 0, 1, 2, 3, most)
	rows := [][]byte{nil, {}, some(31, 1), some(sha.Size, 2), some(33, 3)}
	for _, paths := range [][][]byte{nil, {}, {nil}, {nil, {}}, rows, slices.Repeat(rows, 13), slices.Repeat([][]byte{rows[3]}, 62), slices.Repeat([][]byte{rows[3]}, 63), slices.Repeat([][]byte{rows[3]}, 64), make([][]byte, 100000)} {
		for _, x := range numbers {
			for _, n := range numbers {
				for _, b := range rows {
					if merkle.Check(b, b, x, n, paths) {
						t.Errorf("P6.2: Check of %d of %d, by %d parts: true", x, n, len(paths))
					}
				}
				if x != n && merkle.CheckGrown(rows[3], rows[3], x, n, paths) {
					t.Errorf("P6.3: CheckGrown of %d of %d, by %d parts: true", x, n, len(paths))
				}
			}
		}
	}
}

func TestNilAndEmptyAreTheSame(t *testing.T) {
	if !bytes.Equal(merkle.Root([][]byte{nil, {1}}), merkle.Root([][]byte{{}, {1}})) {
		t.Error("R4: Root of a nil leaf is not that of an empty one")
	}
	for _, none := range [][]byte{nil, {}} {
		l := [][]byte{none, {1}, none}
		for _, p := range [][][]byte{nil, {}} {
			if !merkle.Check(merkle.Root(l[:1]), none, 0, 1, p) {
				t.Error("R4: Check of one empty leaf: false")
			}
			if !merkle.CheckGrown(merkle.Root(l), merkle.Root(l), 3, 3, p) {
				t.Error("R4: CheckGrown of all: false")
			}
		}
	}
}

// roomy is l where each row, and the list of them, has spare room with bytes
// in it; all is what there was in it.
func roomy(l [][]byte) (out, all [][]byte) {
	out = make([][]byte, 0, len(l)+3)
	for i, b := range l {
		r := append(bytes.Clone(b), some(40, i)...)
		out = append(out, r[:len(b)])
	}
	for i := range 3 {
		whole(out)[len(l)+i] = some(20, 50+i)
	}
	for _, b := range whole(out) {
		all = append(all, bytes.Clone(whole(b)))
	}
	return out, all
}

// unchanged holds what was handed in against what it was.
func unchanged(t *testing.T, what string, l, all [][]byte) {
	t.Helper()
	for i, b := range whole(l) {
		if !bytes.Equal(whole(b), all[i]) {
			t.Errorf("R2: %s changed what it was given: part %d", what, i)
		}
	}
}

func TestWhatIsHandedInStaysAsItIs(t *testing.T) {
	for n := 1; n <= 9; n++ {
		l, all := roomy(tree(n))
		root, rootAll := roomy([][]byte{merkle.Root(l)})
		for i := range n {
			p, pAll := roomy(path(t, l, i))
			merkle.Check(root[0], l[i], i, n, p)
			unchanged(t, "Check", p, pAll)
			m := i + 1
			old, oldAll := roomy([][]byte{merkle.Root(l[:m])})
			g, gAll := roomy(grown(t, l, m))
			merkle.CheckGrown(old[0], root[0], m, n, g)
			unchanged(t, "CheckGrown", g, gAll)
			unchanged(t, "CheckGrown", old, oldAll)
		}
		unchanged(t, "Root, Path, Grown or Check", l, all)
		unchanged(t, "Check or CheckGrown", root, rootAll)
	}
}

// An answer whose every byte is turned, spare room too, tells nothing to any
// other one, nor to what was handed in.
func TestAnswersAreNewMemory(t *testing.T) {
	for n := 1; n <= 9; n++ {
		l := tree(n)
		want := copied(l)
		for i := range n {
			for _, made := range []func() [][]byte{
				func() [][]byte { return [][]byte{merkle.Root(l)} },
				func() [][]byte { return path(t, l, i) },
				func() [][]byte { return grown(t, l, i+1) },
			} {
				first := made()
				before := copied(first)
				for j := range first {
					room := whole(first[j])
					for k := range room {
						room[k] ^= 0xff
					}
					for k := range first {
						if k > j && !bytes.Equal(first[k], before[k]) {
							t.Errorf("R2: parts %d and %d of one answer share memory", j, k)
						}
					}
				}
				if again := made(); !same(again, before) {
					t.Errorf("R2: an answer of %d leaves was changed from without", n)
				}
				if !same(l, want) {
					t.Fatalf("R2: an answer shares memory with the leaves")
				}
			}
		}
	}
}
