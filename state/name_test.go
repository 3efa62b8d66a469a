package state_test

import (
	"bytes"
	"math"
	"strconv"
	"testing"

	"permafrost/api"
	"permafrost/snap"
	"permafrost/state"
)

func TestMkdir(t *testing.T) {
	s := state.New()
	runs(t, s, step{mkdir("/d"), ok()}, step{mkdir("/d/e"), ok()}, step{stat("/d/e", 0), noded(folder(2))}, step{list("/", 0), called("d")})
	isOpen(t, s)
	// It needs no descriptor.
	s = house(t)
	fills(t, s, "/due")
	gives(t, s, mkdir("/new"), ok())
	refuses(t, s, refusal{mkdir("/new"), api.ErrThere}, refusal{mkdir("/k"), api.ErrThere}, refusal{mkdir("/"), api.ErrArg},
		refusal{mkdir("/k/x"), api.ErrNotDir}, refusal{mkdir("/none/x"), api.ErrNone})
}

func TestMkdirUpToMaxNodes(t *testing.T) {
	s := state.New()
	for i := 1; i < mostNodes; i++ {
		does(t, s, mkdir("/d"+strconv.Itoa(i)))
	}
	refuses(t, s, refusal{mkdir("/one.more"), api.ErrMany}, refusal{create("/one.more"), api.ErrMany}, refusal{mkdir("/d1"), api.ErrThere})
	runs(t, s, step{rmdir("/d7"), ok()}, step{create("/one.more"), number(0)}, step{stat("/one.more", 0), noded(opened(7, 1, 0))})
}

func TestLink(t *testing.T) {
	s := house(t)
	runs(t, s, step{link("/one", "/d/e/one"), ok()}, step{stat("/d/e/one", 0), noded(closed(4, 2, 3, 9))}, step{list("/d/e", 0), called("one")},
		step{link("/o", "/o2"), ok()}, step{stat("/o", 0), noded(opened(6, 2, 4))})
	refuses(t, s, refusal{link("/none", "/x"), api.ErrNone}, refusal{link("/d", "/x"), api.ErrDir}, refusal{link("/k/x", "/x"), api.ErrNotDir},
		refusal{link("/k", "/d"), api.ErrThere}, refusal{link("/k", "/"), api.ErrArg}, refusal{link("/k", "/none/x"), api.ErrNone})
	for i := range mostNodes - 2 {
		does(t, s, link("/k", "/l"+strconv.Itoa(i)))
	}
	refuses(t, s, refusal{link("/k", "/x"), api.ErrMany})
}

func TestUnlink(t *testing.T) {
	s := house(t)
	refuses(t, s, refusal{unlink("/one"), api.ErrKept}, refusal{unlink("/d"), api.ErrDir}, refusal{unlink("/"), api.ErrDir},
		refusal{unlink("/none"), api.ErrNone}, refusal{unlink("/k/x"), api.ErrNotDir}, refusal{unlink("/gone"), api.ErrNone})
	// One of two names may go, the last one may not.
	runs(t, s, step{unlink("/k"), ok()}, step{unlink("/d/k"), refused(api.ErrKept)}, step{stat("/d/k", 0), noded(closed(3, 1, 4, 9))},
		step{unlink("/due"), ok()}, step{stat("/due", 0), refused(api.ErrNone)}, step{unlink("/o"), ok()}, step{write(0, "!"), number(1)})
	runs(t, s, step{tick(8), ok()}, step{unlink("/one"), refused(api.ErrKept)}, step{tick(9), ok()}, step{unlink("/one"), ok()}, step{unlink("/d/k"), ok()},
		step{list("/", 0), called("d")})
}

func TestUnlinkAtEachTime(t *testing.T) {
	for _, until := range []uint64{0, 1, 5, 1 << 32, lastTime - 1, lastTime} {
		for _, now := range []uint64{0, 1, 4, 5, 6, 1<<32 - 1, 1 << 32, lastTime - 1, lastTime} {
			s := state.New()
			puts(t, s, "/f", "f", until)
			does(t, s, tick(now))
			if now < until {
				gives(t, s, unlink("/f"), refused(api.ErrKept))
			} else {
				gives(t, s, unlink("/f"), ok())
			}
		}
	}
}

func TestRmdir(t *testing.T) {
	s := house(t)
	refuses(t, s, refusal{rmdir("/d"), api.ErrFull}, refusal{rmdir("/k"), api.ErrNotDir}, refusal{rmdir("/none"), api.ErrNone},
		refusal{rmdir("/"), api.ErrArg}, refusal{rmdir("/k/x"), api.ErrNotDir})
	runs(t, s, step{rmdir("/d/e"), ok()}, step{list("/d", 0), called("k")}, step{unlink("/d/k"), ok()}, step{rmdir("/d"), ok()},
		step{list("/", 0), called("due", "k", "o", "one")})
}

func TestRename(t *testing.T) {
	s := house(t)
	refuses(t, s, refusal{rename("/none", "/x"), api.ErrNone}, refusal{rename("/", "/x"), api.ErrArg}, refusal{rename("/d", "/d/e/d"), api.ErrArg},
		refusal{rename("/k", "/one"), api.ErrThere}, refusal{rename("/k", "/one/x"), api.ErrNotDir}, refusal{rename("/one", "/"), api.ErrArg})
	// What is kept may be called otherwise, and is kept still.
	runs(t, s, step{rename("/one", "/d/two"), ok()}, step{stat("/one", 0), refused(api.ErrNone)}, step{stat("/d/two", 0), noded(closed(4, 1, 3, 9))},
		step{unlink("/d/two"), refused(api.ErrKept)}, step{rename("/d", "/dd"), ok()}, step{list("/dd", 0), called("e", "k", "two")},
		step{rename("/k", "/dd/k"), ok()}, step{stat("/k", 0), noded(closed(3, 2, 4, 9))})
	// Who writes to it goes on.
	runs(t, s, step{rename("/o", "/p"), ok()}, step{write(0, "!"), number(1)}, step{stat("/p", 0), noded(opened(6, 1, 5))})
}

func TestList(t *testing.T) {
	s := house(t)
	runs(t, s, step{list("/", 0), called("d", "due", "k", "o", "one")}, step{list("/d", 0), called("e", "k")}, step{list("/d/e", 0), called()},
		step{list("/", 1), called()}, step{list("/", 3), called("d", "due", "k", "one")}, step{list("/d", 3), called("e", "k")})
	refuses(t, s, refusal{list("/k", 0), api.ErrNotDir}, refusal{list("/none", 0), api.ErrNone}, refusal{list("/k/x", 0), api.ErrNotDir},
		refusal{list("/k", 3), api.ErrNotDir}, refusal{list("/d", 1), api.ErrNone}, refusal{list("/o", 3), api.ErrNone})
	for _, id := range noSnaps() {
		refuses(t, s, refusal{list("/", id), api.ErrSnap}, refusal{list("/none", id), api.ErrSnap}, refusal{list("/k", id), api.ErrSnap})
	}
}

func TestStat(t *testing.T) {
	s := house(t)
	runs(t, s, step{stat("/", 0), noded(folder(0))}, step{stat("/d/e", 0), noded(folder(2))}, step{stat("/k", 0), noded(closed(3, 2, 4, 9))},
		step{stat("/o", 0), noded(opened(6, 1, 4))}, step{stat("/", 1), noded(folder(0))}, step{stat("/d/k", 3), noded(closed(3, 2, 4, 9))})
	refuses(t, s, refusal{stat("/none", 0), api.ErrNone}, refusal{stat("/k/x", 0), api.ErrNotDir}, refusal{stat("/gone", 0), api.ErrNone},
		refusal{stat("/k", 1), api.ErrNone}, refusal{stat("/o", 3), api.ErrNone})
	for _, id := range noSnaps() {
		refuses(t, s, refusal{stat("/", id), api.ErrSnap}, refusal{stat("/none", id), api.ErrSnap})
	}
}

// A snapshot tells what was, whatever is done since.
func TestWhatWas(t *testing.T) {
	s := house(t)
	does(t, s, keep("/one", 20), link("/one", "/uno"), rename("/d", "/dd"), unlink("/due"), shut(0, 7))
	runs(t, s, step{stat("/one", 3), noded(closed(4, 1, 3, 9))}, step{stat("/one", 0), noded(closed(4, 2, 3, 20))}, step{list("/d", 3), called("e", "k")},
		step{stat("/due", 3), noded(closed(5, 1, 10, 5))}, step{stat("/o", 3), refused(api.ErrNone)}, step{take(), number(4)}, step{stat("/o", 4), noded(closed(6, 1, 4, 7))})
}

func TestKeep(t *testing.T) {
	s := house(t)
	refuses(t, s, refusal{keep("/none", 9), api.ErrNone}, refusal{keep("/d", 9), api.ErrDir}, refusal{keep("/", 9), api.ErrDir}, refusal{keep("/o", 9), api.ErrBusy},
		refusal{keep("/one", 8), api.ErrKept}, refusal{keep("/one", 0), api.ErrKept}, refusal{keep("/one", lastTime+1), api.ErrArg},
		refusal{keep("/one", math.MaxUint64), api.ErrArg}, refusal{keep("/one/x", 9), api.ErrNotDir}, refusal{keep("/d", lastTime+1), api.ErrDir},
		refusal{keep("/o", lastTime+1), api.ErrBusy}, refusal{keep("/due", 4), api.ErrKept})
	runs(t, s, step{keep("/one", 9), ok()}, step{keep("/one", 12), ok()}, step{stat("/one", 0), noded(closed(4, 1, 3, 12))}, step{keep("/d/k", lastTime), ok()},
		step{stat("/k", 0), noded(closed(3, 2, 4, lastTime))}, step{keep("/k", lastTime-1), refused(api.ErrKept)})
	// What was due is kept again.
	runs(t, s, step{keep("/due", 6), ok()}, step{unlink("/due"), refused(api.ErrKept)}, step{tick(6), ok()}, step{unlink("/due"), ok()})
}

func TestTake(t *testing.T) {
	s := house(t)
	for id := 4; id < 4+mostSnaps-2; id++ {
		gives(t, s, take(), number(id))
	}
	refuses(t, s, refusal{take(), api.ErrMany})
	runs(t, s, step{forget(1), ok()}, step{take(), number(10)}, step{take(), refused(api.ErrMany)})
	// It is of what is closed, with the same Hash as package snap has.
	want := snap.New()
	x := state.New()
	puts(t, x, "/a", "a", 3)
	does(t, x, create("/b"), write(0, "b"))
	for id := 1; id < 3; id++ {
		want.Take(x.Tree())
		gives(t, x, take(), number(id))
		if !bytes.Equal(x.Snaps().Save(), want.Save()) {
			t.Errorf("P14.1: Take: other snapshots than snap.Take's")
		}
	}
	runs(t, x, step{list("/", 1), called("a")}, step{shut(0, 4), ok()}, step{list("/", 2), called("a")})
}

func TestForget(t *testing.T) {
	s := house(t)
	for _, id := range append(noSnaps(), 0) {
		refuses(t, s, refusal{forget(id), api.ErrSnap})
	}
	// The clock is asked, not the operation's Until.
	refuses(t, s, refusal{forget(3), api.ErrKept}, refusal{api.Op{Kind: api.Forget, Snap: 3, Until: 99}, api.ErrKept})
	runs(t, s, step{forget(1), ok()}, step{list("/", 1), refused(api.ErrSnap)}, step{forget(1), refused(api.ErrSnap)})
	runs(t, s, step{tick(8), ok()}, step{forget(3), refused(api.ErrKept)}, step{tick(9), ok()}, step{forget(3), ok()}, step{stat("/k", 3), refused(api.ErrSnap)},
		step{stat("/k", 0), noded(closed(3, 2, 4, 9))}, step{take(), number(4)})
}

func TestNamesAreNewMemory(t *testing.T) {
	s := house(t)
	for range 2 {
		l := s.Do(list("/", 0)).Names
		l = l[:cap(l)]
		for i := range l {
			l[i] = "zzz"
		}
		gives(t, s, list("/", 0), called("d", "due", "k", "o", "one"))
	}
}
