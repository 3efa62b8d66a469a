package clock_test

import (
	"math"
	"math/big"
	"testing"

	"permafrost/api"
	"permafrost/clock"
)

// last is the last time that there is, as the table of limits has it.
const last = 1 << 40

// times are ordinary numbers, and those about the edges: of MaxTime, and of
// what fewer bits, or bits with a sign, would hold.
func times() []uint64 {
	out := []uint64{0, 1, 2, 3, 4, 5, 6, 7, 99, 100, 101, 1000, 123456789, last / 2, last - 1000, last + 1000, 2 * last, 3 * last}
	for _, n := range []uint64{1 << 8, 1 << 16, 1 << 31, 1 << 32, 1 << 39, last, 1 << 41, 1 << 53, 1 << 63} {
		out = append(out, n-2, n-1, n, n+1, n+2)
	}
	return append(out, math.MaxUint64-last, math.MaxUint64-2, math.MaxUint64-1, math.MaxUint64)
}

// beyond tells if a is greater than b, by numbers that have no end.
func beyond(a, b uint64) bool {
	return new(big.Int).SetUint64(a).Cmp(new(big.Int).SetUint64(b)) > 0
}

func TestMaxTime(t *testing.T) {
	if uint64(api.MaxTime) != last {
		t.Errorf("P8.1: MaxTime: %d, must be %d", uint64(api.MaxTime), uint64(last))
	}
}

func TestRight(t *testing.T) {
	for _, c := range []struct {
		t    uint64
		want bool
	}{
		{0, true}, {1, true}, {5, true}, {1 << 32, true}, {1<<32 + 1, true}, {1 << 39, true},
		{last - 1, true}, {last, true}, {last + 1, false}, {last + 2, false}, {2 * last, false}, {1 << 41, false},
		{1<<63 - 1, false}, {1 << 63, false}, {1<<63 + 1, false}, {math.MaxUint64, false},
	} {
		if got := clock.Right(c.t); got != c.want {
			t.Errorf("P8.1: Right(%d): %v, must be %v", c.t, got, c.want)
		}
	}
}

func TestNext(t *testing.T) {
	for _, c := range []struct{ now, tick, want uint64 }{
		{5, 3, 5}, {3, 5, 5}, {5, 5, 5}, {0, 0, 0}, {0, 1, 1}, {1, 0, 1}, {5, 4, 5}, {5, 6, 6},
		{5, last - 1, last - 1}, {5, last, last}, {5, last + 1, 5}, {0, last + 1, 0}, {5, math.MaxUint64, 5}, {5, 1 << 63, 5},
		{last, 5, last}, {last, last, last}, {last, last - 1, last}, {last, last + 1, last}, {last - 1, last, last}, {last, 0, last},
		// A now that is no time is not asked for: it stays, as it is the greater.
		{last + 1, 5, last + 1}, {last + 1, last, last + 1}, {last + 1, last + 2, last + 1}, {last + 2, last + 1, last + 2},
		{math.MaxUint64, 0, math.MaxUint64}, {math.MaxUint64, last, math.MaxUint64}, {1 << 63, math.MaxUint64, 1 << 63},
	} {
		if got := clock.Next(c.now, c.tick); got != c.want {
			t.Errorf("P8.1: Next(%d, %d): %d, must be %d", c.now, c.tick, got, c.want)
		}
	}
}

func TestDue(t *testing.T) {
	for _, c := range []struct {
		now, until uint64
		want       bool
	}{
		{0, 0, true}, {5, 5, true}, {6, 5, true}, {4, 5, false}, {0, 1, false}, {1, 0, true},
		{last, last, true}, {last - 1, last, false}, {last, last - 1, true}, {last, 0, true}, {0, last, false},
		// Due asks of neither if it is a time.
		{last, last + 1, false}, {last + 1, last + 1, true}, {last + 2, last + 1, true}, {last + 1, last, true},
		{0, math.MaxUint64, false}, {math.MaxUint64, 0, true}, {math.MaxUint64, math.MaxUint64, true},
		{1 << 63, 1<<63 - 1, true}, {1<<63 - 1, 1 << 63, false},
	} {
		if got := clock.Due(c.now, c.until); got != c.want {
			t.Errorf("P8.1: Due(%d, %d): %v, must be %v", c.now, c.until, got, c.want)
		}
	}
}

func TestLonger(t *testing.T) {
	for _, c := range []struct {
		old, until uint64
		want       bool
	}{
		{0, 0, true}, {5, 5, true}, {5, 6, true}, {5, 4, false}, {0, 1, true}, {1, 0, false},
		{5, last - 1, true}, {5, last, true}, {last, last, true}, {last - 1, last, true}, {last, last - 1, false},
		{5, last + 1, false}, {0, last + 1, false}, {last, last + 1, false}, {5, math.MaxUint64, false}, {0, 1 << 63, false},
		// An old that is no time lets nothing come that is one.
		{last + 1, last + 1, false}, {last + 1, last, false}, {last + 1, last + 2, false}, {math.MaxUint64, math.MaxUint64, false},
		{math.MaxUint64, 5, false}, {1 << 63, 5, false},
	} {
		if got := clock.Longer(c.old, c.until); got != c.want {
			t.Errorf("P8.1: Longer(%d, %d): %v, must be %v", c.old, c.until, got, c.want)
		}
	}
}

func TestEveryPair(t *testing.T) {
	for _, a := range times() {
		if got, want := clock.Right(a), !beyond(a, last); got != want {
			t.Errorf("P8.1: Right(%d): %v, must be %v", a, got, want)
		}
		for _, b := range times() {
			next := a
			if !beyond(b, last) && beyond(b, a) {
				next = b
			}
			if got := clock.Next(a, b); got != next {
				t.Errorf("P8.1: Next(%d, %d): %d, must be %d", a, b, got, next)
			}
			if got, want := clock.Due(a, b), !beyond(b, a); got != want {
				t.Errorf("P8.1: Due(%d, %d): %v, must be %v", a, b, got, want)
			}
			if got, want := clock.Longer(a, b), !beyond(b, last) && !beyond(a, b); got != want {
				t.Errorf("P8.1: Longer(%d, %d): %v, must be %v", a, b, got, want)
			}
		}
	}
}

func TestNeverBack(t *testing.T) {
	for _, from := range times() {
		now := from
		for _, tick := range times() {
			next := clock.Next(now, tick)
			if beyond(now, next) {
				t.Errorf("P8.1: Next(%d, %d): %d, which is back", now, tick, next)
			}
			if again := clock.Next(next, tick); again != next {
				t.Errorf("P8.1: Next(%d, %d): %d, the same tick again changes it", next, tick, again)
			}
			if clock.Right(now) != clock.Right(next) {
				t.Errorf("P8.1: Next(%d, %d): %d, which is Right where now isn't, or isn't where now is", now, tick, next)
			}
			now = next
		}
	}
}

func TestSameAnswers(t *testing.T) {
	first := clock.Next(5, 3)
	clock.Next(last, last)
	clock.Due(last, 0)
	if again := clock.Next(5, 3); again != first || again != 5 {
		t.Errorf("R4: Next(5, 3): %d, then %d, must be 5 each time", first, again)
	}
}
