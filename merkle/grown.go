package merkle

import (
	"bytes"

	"permafrost/api"
	"permafrost/sha"
)

// Grown is what shows that the tree of the first m leaves is the beginning of
// that of all.
func Grown(leaves [][]byte, m int) ([][]byte, api.Errno) {
	if m < 1 || m > len(leaves) {
		return nil, api.ErrArg
	}
	return grown(leaves, m, true), api.OK
}

// grown is Grown of a part of the tree; known tells if the first m are all that
// the old tree has: their Root is in the hand of whoever checks.
func grown(leaves [][]byte, m int, known bool) [][]byte {
	if m == len(leaves) && known {
		return nil
	}
	if m == len(leaves) {
		return [][]byte{Root(leaves)}
	}
	k := parting(len(leaves))
	if m <= k {
		return append(grown(leaves[:k], m, known), Root(leaves[k:]))
	}
	return append(grown(leaves[k:], m-k, false), Root(leaves[:k]))
}

// CheckGrown tells if proof shows that the tree of m with Root old is the
// beginning of that of n with Root root.
func CheckGrown(old, root []byte, m, n int, proof [][]byte) bool {
	if m < 1 || m > n || !hashes(old) || !hashes(proof...) {
		return false
	}
	was, is, ok := grow(old, m, n, true, proof)
	return ok && bytes.Equal(was, old) && bytes.Equal(is, root)
}

// hashes tells if each of l may be a hash. The lowest pair is of two that are
// both handed in: were one longer, and the other one shorter by as much, they
// would come to the same root, and show a beginning that is none.
func hashes(l ...[]byte) bool {
	for _, h := range l {
		if len(h) != sha.Size {
			return false
		}
	}
	return true
}

// grow is what proof comes to for the first m of n, and for all n, where old
// and known are as in CheckGrown and grown; false, if proof has not as many
// parts as it must have.
func grow(old []byte, m, n int, known bool, proof [][]byte) (was, is []byte, ok bool) {
	if m == n && known {
		return old, old, len(proof) == 0
	}
	if len(proof) == 0 {
		return nil, nil, false
	}
	lower, other := proof[:len(proof)-1], proof[len(proof)-1]
	if m == n {
		return other, other, len(lower) == 0
	}
	k := parting(n)
	if m <= k {
		was, is, ok = grow(old, m, k, known, lower)
		return was, sha.Pair(is, other), ok
	}
	was, is, ok = grow(old, m-k, n-k, false, lower)
	return sha.Pair(other, was), sha.Pair(other, is), ok
}
