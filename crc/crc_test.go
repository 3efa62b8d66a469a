package crc_test

import (
	"bytes"
	"hash/crc32"
	"strings"
	"testing"

	"permafrost/crc"
)

// some are n bytes, each unlike its neighbours.
func some(n int) []byte {
	b := make([]byte, n)
	x := uint32(n) + 1
	for i := range b {
		x = x*1664525 + 1013904223
		b[i] = byte(x >> 24)
	}
	return b
}

// wanted is the sum as the chapter says it, bit by bit.
func wanted(b []byte) uint32 {
	c := uint32(0xffffffff)
	for _, x := range b {
		for k := range 8 {
			low := (c ^ uint32(x)>>k) & 1
			c >>= 1
			if low == 1 {
				c ^= 0xedb88320
			}
		}
	}
	return c ^ 0xffffffff
}

// rows are n bytes of several kinds.
func rows(n int) [][]byte {
	return [][]byte{some(n), make([]byte, n), bytes.Repeat([]byte{0xff}, n), bytes.Repeat([]byte{0x80}, n), bytes.Repeat([]byte{1}, n)}
}

func TestKnownSums(t *testing.T) {
	for i, c := range []struct {
		text string
		sum  uint32
	}{
		{"", 0},
		{"123456789", 0xcbf43926},
		{"a", 0xe8b7be43},
		{"abc", 0x352441c2},
		{"\x00", 0xd202ef8d},
		{"\xff", 0xff000000},
		{"\x00\x00\x00\x00", 0x2144df1c},
		{"\xff\xff\xff\xff", 0xffffffff},
		{"The quick brown fox jumps over the lazy dog", 0x414fa339},
		{strings.Repeat("\x00", 32), 0x190a55ad},
		{strings.Repeat("\xff", 32), 0xff6cab0b},
	} {
		if got := crc.Sum([]byte(c.text)); got != c.sum {
			t.Errorf("P3.1: case %d: Sum %08x, must be %08x", i, got, c.sum)
		}
	}
}

func TestNothing(t *testing.T) {
	for i, b := range [][]byte{nil, {}, some(9)[:0]} {
		if got := crc.Sum(b); got != 0 {
			t.Errorf("P3.1: case %d: Sum of nothing: %08x", i, got)
		}
		for _, c := range []uint32{0, 1, 0x80000000, 0xcbf43926, 0xffffffff} {
			if got := crc.More(c, b); got != c {
				t.Errorf("P3.1: case %d: nothing behind %08x: %08x", i, c, got)
			}
		}
	}
}

func TestSumOfEachByte(t *testing.T) {
	for x := range 256 {
		for _, ahead := range [][]byte{nil, {0}, {0xff}, some(7)} {
			b := append(bytes.Clone(ahead), byte(x))
			if got := crc.Sum(b); got != wanted(b) {
				t.Errorf("P3.1: Sum of %x: %08x, must be %08x", b, got, wanted(b))
			}
		}
	}
}

func TestSumOfEachLength(t *testing.T) {
	for n := range 1100 {
		for i, b := range rows(n) {
			if got := crc.Sum(b); got != wanted(b) || got != crc32.ChecksumIEEE(b) {
				t.Fatalf("P3.1: Sum of %d bytes, case %d: %08x, must be %08x", n, i, got, wanted(b))
			}
		}
	}
	for _, n := range []int{4095, 4096, 4097, 65535, 65536, 1<<20 + 1} {
		if b := some(n); crc.Sum(b) != wanted(b) {
			t.Errorf("P3.1: Sum of %d bytes: %08x, must be %08x", n, crc.Sum(b), wanted(b))
		}
	}
}

func TestMoreAtEachCut(t *testing.T) {
	for i, b := range rows(300) {
		if crc.More(0, b) != crc.Sum(b) {
			t.Fatalf("P3.1: case %d: More of 0", i)
		}
		for cut := range len(b) + 1 {
			if got := crc.More(crc.Sum(b[:cut]), b[cut:]); got != wanted(b) {
				t.Fatalf("P3.1: case %d, cut at %d: %08x, must be %08x", i, cut, got, wanted(b))
			}
		}
	}
}

func TestMoreInPieces(t *testing.T) {
	b := some(1000)
	for _, step := range []int{1, 2, 3, 7, 64, 127, 128, 129} {
		c := uint32(0)
		for at := 0; at < len(b); at += step {
			c = crc.More(c, b[at:min(at+step, len(b))])
		}
		if c != wanted(b) {
			t.Errorf("P3.1: in pieces of %d: %08x, must be %08x", step, c, wanted(b))
		}
	}
}

func TestMoreOfEachSum(t *testing.T) {
	// every number is the sum of some four bytes, so More has a meaning for each
	for k, b := range map[uint32][]byte{
		0x2144df1c: make([]byte, 4),
		0xffffffff: {0xff, 0xff, 0xff, 0xff},
		0x00000000: {0x9d, 0x0a, 0xd9, 0x6d},
	} {
		if wanted(b) != k {
			t.Fatalf("%x is not the sum of %x", k, b)
		}
		for _, next := range rows(40) {
			if got := crc.More(k, next); got != wanted(append(bytes.Clone(b), next...)) {
				t.Errorf("P3.1: More(%08x): %08x", k, got)
			}
		}
	}
	for bit := range 32 {
		c := uint32(1) << bit
		for i, b := range rows(33) {
			if crc.More(c, b) != crc32.Update(c, crc32.IEEETable, b) || crc.More(^c, b) != crc32.Update(^c, crc32.IEEETable, b) {
				t.Errorf("P3.1: More(%08x), case %d", c, i)
			}
		}
	}
}

func TestAByteThatIsTurned(t *testing.T) {
	for _, n := range []int{1, 2, 3, 4, 5, 8, 9, 64, 128, 1024} {
		for k, b := range rows(n) {
			sum := crc.Sum(b)
			more := crc.More(0xcbf43926, b)
			for i := range b {
				for turn := 1; turn < 256; turn += 1 + n/64 {
					b[i] ^= byte(turn)
					if crc.Sum(b) == sum || crc.More(0xcbf43926, b) == more {
						t.Fatalf("P3.2: %d bytes, case %d: byte %d turned by %02x is not seen", n, k, i, turn)
					}
					b[i] ^= byte(turn)
				}
			}
		}
	}
}

func TestATurnIsNotLostBehind(t *testing.T) {
	// as long as the two sums are unlike, more of the same keeps them so
	b, far := some(16), some(1<<16)
	for i := range b {
		turned := bytes.Clone(b)
		turned[i] ^= 0x10
		if crc.More(crc.Sum(turned), far) == crc.More(crc.Sum(b), far) {
			t.Errorf("P3.2: byte %d turned, far ahead of the end", i)
		}
	}
}

func TestWhatIsHandedIn(t *testing.T) {
	for _, n := range []int{0, 1, 3, 64, 100} {
		room := some(200)
		b := room[:n]
		sum, more := crc.Sum(b), crc.More(5, b)
		if !bytes.Equal(room, some(200)) {
			t.Fatalf("R2: %d bytes handed in were changed", n)
		}
		clear(room[n:])
		if crc.Sum(b) != sum || crc.More(5, b) != more {
			t.Errorf("R5: %d bytes: the room behind them is read", n)
		}
	}
}

func TestAnswersHangOnWhatIsGivenAlone(t *testing.T) {
	b := some(50)
	one := crc.Sum(b)
	crc.More(77, some(9))
	crc.Sum(some(200))
	if crc.Sum(b) != one {
		t.Error("R4: Sum of the same twice")
	}
}
