package state_test

import (
	"math"
	"slices"
	"strconv"
	"strings"
	"testing"

	"permafrost/api"
	"permafrost/state"
)

func TestCreate(t *testing.T) {
	s := state.New()
	does(t, s, mkdir("/d"))
	runs(t, s, step{create("/a"), number(0)}, step{stat("/a", 0), noded(opened(2, 1, 0))}, step{create("/d/b"), number(1)}, step{stat("/d/b", 0), noded(opened(3, 1, 0))})
	refuses(t, s, refusal{create("/a"), api.ErrThere}, refusal{create("/d"), api.ErrThere}, refusal{create("/"), api.ErrArg},
		refusal{create("/a/x"), api.ErrNotDir}, refusal{create("/none/x"), api.ErrNone})
	isOpen(t, s, 0, 1)
	// What was created is written to, each by its own descriptor.
	does(t, s, write(1, "bb"), write(0, "a"))
	runs(t, s, step{stat("/a", 0), noded(opened(2, 1, 1))}, step{stat("/d/b", 0), noded(opened(3, 1, 2))})
}

func TestCreateUpToMaxOpen(t *testing.T) {
	s := state.New()
	for fd := range mostOpen {
		gives(t, s, create("/f"+strconv.Itoa(fd)), number(fd))
	}
	isOpen(t, s, 0, 1, 2, 3, 4, 5, 6, 7)
	// A descriptor is asked ahead of the tree, and nothing is made without one.
	refuses(t, s, refusal{create("/new"), api.ErrBusy}, refusal{create("/f0"), api.ErrBusy}, refusal{create("/"), api.ErrBusy},
		refusal{create("/none/x"), api.ErrBusy}, refusal{create("/f0/x"), api.ErrBusy})
	does(t, s, shut(5, 0), shut(2, 0))
	isOpen(t, s, 0, 1, 3, 4, 6, 7)
	runs(t, s, step{create("/new"), number(2)}, step{open("/f5", 0), number(5)}, step{create("/newer"), refused(api.ErrBusy)})
}

func TestOpen(t *testing.T) {
	s := house(t)
	runs(t, s, step{open("/k", 0), number(3)}, step{open("/d/k", 0), number(4)}, step{open("/one", 3), number(5)},
		step{read(3, 0, 9), bytesOf("kept")}, step{read(4, 0, 9), bytesOf("kept")}, step{read(5, 0, 9), bytesOf("one")}, step{read(2, 0, 99), bytesOf("due by now")})
	isOpen(t, s, 0, 1, 2, 3, 4, 5)
	refuses(t, s, refusal{open("/none", 0), api.ErrNone}, refusal{open("/k/x", 0), api.ErrNotDir}, refusal{open("/d", 0), api.ErrDir}, refusal{open("/", 0), api.ErrDir},
		refusal{open("/o", 0), api.ErrBusy}, refusal{open("/gone", 0), api.ErrNone}, refusal{open("/k", 1), api.ErrNone}, refusal{open("/o", 3), api.ErrNone},
		refusal{open("/d", 3), api.ErrDir}, refusal{open("/", 1), api.ErrDir})
	for _, id := range noSnaps() {
		refuses(t, s, refusal{open("/k", id), api.ErrSnap}, refusal{open("/none", id), api.ErrSnap}, refusal{open("/d", id), api.ErrSnap})
	}
	// The least one is taken, also where it has been another's.
	does(t, s, shut(1, 0), shut(3, 0))
	runs(t, s, step{open("/one", 0), number(1)}, step{read(1, 0, 9), bytesOf("one")}, step{open("/due", 0), number(3)}, step{open("/due", 0), number(6)})
}

func TestOpenUpToMaxOpen(t *testing.T) {
	s := house(t)
	fills(t, s, "/due")
	// A snapshot that is none is told ahead of this, all else behind it.
	refuses(t, s, refusal{open("/k", 0), api.ErrBusy}, refusal{open("/none", 0), api.ErrBusy}, refusal{open("/d", 0), api.ErrBusy}, refusal{open("/k/x", 0), api.ErrBusy},
		refusal{open("/k", 3), api.ErrBusy}, refusal{open("/none", 3), api.ErrBusy}, refusal{open("/k", 2), api.ErrSnap}, refusal{open("/k", -1), api.ErrSnap})
	runs(t, s, step{shut(7, 0), ok()}, step{open("/k", 3), number(7)})
}

func TestOpenWhatWasJustClosed(t *testing.T) {
	s := state.New()
	does(t, s, create("/f"), write(0, "now"))
	runs(t, s, step{open("/f", 0), refused(api.ErrBusy)}, step{shut(0, 9), ok()}, step{open("/f", 0), number(0)}, step{read(0, 0, 9), bytesOf("now")},
		step{write(0, "!"), refused(api.ErrBad)})
}

func TestRead(t *testing.T) {
	all := "0123456789"
	s := state.New()
	puts(t, s, "/f", all, 0)
	does(t, s, take(), open("/f", 0), open("/f", 1))
	edges := []int{0, 1, 5, 9, 10, 11, 4096, 65535, 1 << 40, math.MaxInt - 5, math.MaxInt}
	for fd := range 2 {
		for _, at := range edges {
			for _, n := range edges {
				want := ""
				if at < len(all) {
					want = all[at:]
					want = want[:min(n, len(want))]
				}
				gives(t, s, read(fd, at, n), bytesOf(want))
			}
		}
		for _, x := range []int{-1, -4096, math.MinInt} {
			refuses(t, s, refusal{read(fd, x, 1), api.ErrArg}, refusal{read(fd, 0, x), api.ErrArg}, refusal{read(fd, x, x), api.ErrArg}, refusal{read(fd, 99, x), api.ErrArg})
		}
	}
}

func TestReadOfWhatIsNone(t *testing.T) {
	s := house(t)
	for _, fd := range append(noFDs(), 0, 1, 3, 7) {
		refuses(t, s, refusal{read(fd, 0, 1), api.ErrBad}, refusal{read(fd, -1, 1), api.ErrBad}, refusal{read(fd, 0, 0), api.ErrBad})
	}
	does(t, s, shut(2, 0))
	refuses(t, s, refusal{read(2, 0, 1), api.ErrBad})
}

func TestReadOfNothingAndOfMaxFile(t *testing.T) {
	s := state.New()
	puts(t, s, "/void", "", 0)
	does(t, s, create("/most"))
	part := strings.Repeat("part", 128)
	for range mostSize / len(part) {
		gives(t, s, write(0, part), number(512))
	}
	runs(t, s, step{write(0, "!"), refused(api.ErrSpace)}, step{write(0, ""), number(0)}, step{shut(0, 0), ok()}, step{open("/most", 0), number(0)},
		step{open("/void", 0), number(1)}, step{read(0, 0, mostSize), bytesOf(strings.Repeat(part, 8))}, step{read(1, 0, mostSize), bytesOf("")})
}

func TestWrite(t *testing.T) {
	s := state.New()
	does(t, s, create("/f"))
	most := strings.Repeat("m", mostWrite)
	runs(t, s, step{write(0, "one"), number(3)}, step{write(0, ""), number(0)}, step{write(0, "\x00\xff"), number(2)}, step{write(0, most), number(mostWrite)})
	refuses(t, s, refusal{write(0, most+"!"), api.ErrLong}, refusal{write(0, strings.Repeat(most, 9)), api.ErrLong})
	for range 5 {
		does(t, s, write(0, most))
	}
	// 491 bytes are left. Too much at once is told ahead of no space.
	refuses(t, s, refusal{write(0, most), api.ErrSpace}, refusal{write(0, most[:492]), api.ErrSpace}, refusal{write(0, most+"!"), api.ErrLong})
	runs(t, s, step{write(0, most[:491]), number(491)}, step{write(0, "!"), refused(api.ErrSpace)}, step{shut(0, 0), ok()}, step{open("/f", 0), number(0)},
		step{read(0, 0, 9), bytesOf("one\x00\xffmmmm")})
}

func TestWriteToWhatIsNone(t *testing.T) {
	s := house(t)
	much := strings.Repeat("m", mostWrite+1)
	for _, fd := range append(noFDs(), 2, 3, 7) {
		refuses(t, s, refusal{write(fd, "x"), api.ErrBad}, refusal{write(fd, ""), api.ErrBad}, refusal{write(fd, much), api.ErrBad})
	}
	does(t, s, shut(0, 9))
	refuses(t, s, refusal{write(0, "x"), api.ErrBad})
}

// R2: neither the bytes nor the room behind them are changed or kept.
func TestBytesAreByThemselves(t *testing.T) {
	s := state.New()
	does(t, s, create("/f"))
	room := []byte("abcdef")
	s.Do(api.Op{Kind: api.Write, FD: 0, Data: room[:3]})
	does(t, s, write(0, "xyz"))
	if string(room) != "abcdef" {
		t.Errorf("R2: Write changed the room behind what it was handed: %q", room)
	}
	clear(room)
	does(t, s, shut(0, 0), open("/f", 0))
	for range 2 {
		b := s.Do(read(0, 0, 4)).Data
		b = b[:cap(b)]
		for i := range b {
			b[i] = 'z'
		}
		gives(t, s, read(0, 0, 9), bytesOf("abcxyz"))
	}
	does(t, s, open("/f", 0))
	gives(t, s, read(1, 0, 9), bytesOf("abcxyz"))
}

func TestCloseOfWhatIsNone(t *testing.T) {
	s := house(t)
	for _, fd := range append(noFDs(), 3, 7) {
		refuses(t, s, refusal{shut(fd, 0), api.ErrBad}, refusal{shut(fd, lastTime+1), api.ErrBad})
	}
	runs(t, s, step{shut(2, 0), ok()}, step{shut(2, 0), refused(api.ErrBad)}, step{shut(0, 0), ok()}, step{shut(0, 0), refused(api.ErrBad)})
	isOpen(t, s, 1)
}

func TestCloseOfOneForReading(t *testing.T) {
	// No Until is asked of it, and the file is as it was.
	for _, until := range []uint64{0, 3, lastTime, lastTime + 1, math.MaxUint64} {
		s := house(t)
		was := s.Tree().Save()
		gives(t, s, shut(2, until), ok())
		isOpen(t, s, 0, 1)
		if !slices.Equal(s.Tree().Save(), was) {
			t.Error("P14.1: Close of one for reading has changed the tree")
		}
	}
}

func TestCloseOfOneForWriting(t *testing.T) {
	for _, until := range []uint64{0, 4, 5, 9, 1 << 33, lastTime} {
		s := house(t)
		runs(t, s, step{shut(0, until), ok()}, step{stat("/o", 0), noded(closed(6, 1, 4, until))}, step{write(0, "!"), refused(api.ErrBad)})
		isOpen(t, s, 1, 2)
		// Without a name it is gone at once.
		gives(t, s, shut(1, until), ok())
		isOpen(t, s, 2)
		if n := s.Tree().Count(); n != 7 {
			t.Errorf("P14.1: %d nodes, must be 7", n)
		}
	}
}

func TestCloseRefusedStaysOpen(t *testing.T) {
	s := house(t)
	for _, until := range []uint64{lastTime + 1, math.MaxUint64} {
		refuses(t, s, refusal{shut(0, until), api.ErrArg}, refusal{shut(1, until), api.ErrArg})
	}
	isOpen(t, s, 0, 1, 2)
	runs(t, s, step{write(0, "!"), number(1)}, step{write(1, "!"), number(1)}, step{shut(0, lastTime), ok()}, step{shut(1, 3), ok()}, step{stat("/o", 0), noded(closed(6, 1, 5, lastTime))})
}

// P14.2: a descriptor for reading keeps what it reads.
func TestReadOfWhatIsUnlinked(t *testing.T) {
	s := house(t)
	does(t, s, open("/due", 0), unlink("/due"))
	runs(t, s, step{read(2, 0, 99), bytesOf("due by now")}, step{read(3, 4, 2), bytesOf("by")}, step{open("/due", 0), refused(api.ErrNone)})
	// Who comes to its ID is another.
	runs(t, s, step{create("/new"), number(4)}, step{stat("/new", 0), noded(opened(5, 1, 0))}, step{write(4, "newer than that"), number(15)},
		step{read(2, 0, 99), bytesOf("due by now")}, step{shut(4, 0), ok()}, step{read(2, 0, 99), bytesOf("due by now")},
		step{shut(2, 0), ok()}, step{read(3, 0, 3), bytesOf("due")}, step{open("/new", 0), number(2)}, step{read(2, 0, 3), bytesOf("new")})
	// A directory may come to it, too.
	does(t, s, open("/new", 0), unlink("/new"), mkdir("/dir"))
	runs(t, s, step{stat("/dir", 0), noded(folder(5))}, step{read(2, 0, 5), bytesOf("newer")}, step{read(3, 0, 3), bytesOf("due")}, step{read(4, 0, 3), bytesOf("new")})
}

func TestReadOfAForgottenSnapshot(t *testing.T) {
	s := house(t)
	does(t, s, tick(9), open("/one", 3), open("/d/k", 3), forget(3))
	runs(t, s, step{read(3, 0, 99), bytesOf("one")}, step{read(4, 0, 99), bytesOf("kept")}, step{open("/one", 3), refused(api.ErrSnap)})
	does(t, s, unlink("/one"), unlink("/k"), unlink("/d/k"), take(), create("/one"))
	runs(t, s, step{read(3, 0, 99), bytesOf("one")}, step{read(4, 0, 99), bytesOf("kept")}, step{write(5, "uno"), number(3)}, step{read(3, 0, 99), bytesOf("one")})
}

func TestReadWhateverIsDone(t *testing.T) {
	s := house(t)
	does(t, s, open("/k", 0), open("/one", 3), rename("/k", "/kk"), keep("/kk", 99), rename("/d", "/dd"), unlink("/kk"), link("/dd/k", "/k"), tick(99),
		unlink("/k"), unlink("/dd/k"), unlink("/one"), rmdir("/dd/e"), rmdir("/dd"), shut(0, 0), unlink("/o"), unlink("/due"), forget(1), forget(3))
	runs(t, s, step{list("/", 0), called()}, step{read(2, 0, 99), bytesOf("due by now")}, step{read(3, 0, 99), bytesOf("kept")}, step{read(4, 0, 99), bytesOf("one")})
}

// A file that was not closed outlives its names, and is still written.
func TestWriteOfWhatIsUnlinked(t *testing.T) {
	s := house(t)
	runs(t, s, step{write(1, "!"), number(1)}, step{create("/gone"), number(3)}, step{stat("/gone", 0), noded(opened(8, 1, 0))}, step{write(3, "other"), number(5)})
	if n, _ := s.Tree().Node(7); n != opened(7, 0, 5) {
		t.Errorf("P14.1: Write of what is unlinked: %+v", n)
	}
	runs(t, s, step{shut(1, 99), ok()}, step{stat("/gone", 0), noded(opened(8, 1, 5))})
	if _, found := s.Tree().Node(7); found {
		t.Error("P14.1: Close of what has no name: it is still there")
	}
}
