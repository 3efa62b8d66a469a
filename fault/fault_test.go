package fault_test

import (
	"errors"
	"fmt"
	"strings"
	"testing"

	"permafrost/api"
	"permafrost/fault"
)

// deepest is how many parts the document lets stand in one another.
const deepest = 1 << 16

// stands is an error of another's making: it takes itself for a number and
// for a *Fault when it is asked.
type stands struct {
	code api.Errno
	at   *fault.Fault
}

func (s stands) Error() string { return "stands" }

func (s stands) Is(target error) bool { return target == s.code }

func (s stands) As(target any) bool {
	switch t := target.(type) {
	case *api.Errno:
		*t = s.code
		return true
	case **fault.Fault:
		*t = s.at
		return s.at != nil
	}
	return false
}

// wild panics whatever it is asked.
type wild struct{}

func (wild) Error() string { panic("Error") }
func (wild) Unwrap() error { panic("Unwrap") }
func (wild) Is(error) bool { panic("Is") }
func (wild) As(any) bool   { panic("As") }

// wildList panics on its other kind of Unwrap.
type wildList struct{}

func (wildList) Error() string   { panic("Error") }
func (wildList) Unwrap() []error { panic("Unwrap") }

// bag cannot be held against another one by ==.
type bag []error

func (b bag) Error() string   { return "bag" }
func (b bag) Unwrap() []error { return b }

// circle is an error that leads back to itself.
type circle struct{}

func (circle) Error() string   { return "circle" }
func (c circle) Unwrap() error { return c }

// fountain takes itself for a new *Fault around itself, each time it is asked.
type fountain struct{}

func (fountain) Error() string { return "fountain" }
func (f fountain) As(target any) bool {
	if t, ok := target.(**fault.Fault); ok {
		*t = &fault.Fault{Err: f}
		return true
	}
	return false
}

// liar gives an answer, and says that it has none.
type liar struct{}

func (liar) Error() string { return "liar" }

func (liar) As(target any) bool {
	stands{code: api.ErrSum, at: &fault.Fault{Op: "o", Path: "p"}}.As(target)
	return false
}

// around wraps err by another's means.
func around(err error) error { return fmt.Errorf("around: %w", err) }

// nested is err within so many Faults; the outermost has the highest number.
func nested(n int, err error) error {
	for i := range n {
		err = &fault.Fault{Op: fmt.Sprint("o", i), Path: "p", Err: err}
	}
	return err
}

var none *fault.Fault // a nil one, which is no nil error

func TestWrapOfNothing(t *testing.T) {
	for i, err := range []error{
		nil,
		api.OK,
		&fault.Fault{Op: "o", Path: "p", Err: api.OK},
		around(api.OK),
		nested(3, around(api.OK)),
		errors.Join(errors.New("other"), api.OK, api.ErrNone),
		stands{code: api.OK},
	} {
		if got := fault.Wrap("op", "path", err); got != nil {
			t.Errorf("P1.1: case %d: Wrap of what is no error: %T", i, got)
		}
	}
}

func TestWrapOfErrors(t *testing.T) {
	inner := fault.Wrap("c", "d", api.ErrBad)
	for i, err := range []error{
		api.ErrArg,
		api.ErrOther,
		api.Errno(-1),
		errors.New("other"),
		inner,
		around(inner),
		&fault.Fault{},
		none,
		errors.Join(api.ErrNone, api.OK),
	} {
		got := fault.Wrap("op", "/path", err)
		f, ok := got.(*fault.Fault)
		if !ok {
			t.Fatalf("P1.1: case %d: %T", i, got)
		}
		if *f != (fault.Fault{Op: "op", Path: "/path", Err: err}) {
			t.Errorf("P1.1: case %d: %+v", i, *f)
		}
		if f.Unwrap() != err || errors.Unwrap(got) != err || !errors.Is(got, err) {
			t.Errorf("P1.1: case %d: Unwrap", i)
		}
	}
	if fault.Wrap("op", "path", inner) == fault.Wrap("op", "path", inner) {
		t.Error("R2: an answer is new memory")
	}
	if fault.Wrap("op", "path", wild{}) == nil || fault.Wrap("op", "path", bag{nil}) == nil {
		t.Error("P1.1: errors of another's making")
	}
}

func TestUnwrap(t *testing.T) {
	if none.Unwrap() != nil || (&fault.Fault{}).Unwrap() != nil {
		t.Error("P1.1: Unwrap where there is no Err")
	}
	f := &fault.Fault{Err: api.OK}
	if f.Unwrap() != api.OK {
		t.Error("P1.1: Unwrap of OK is that")
	}
	f.Err = api.ErrKept
	if f.Unwrap() != api.ErrKept {
		t.Error("P1.1: Unwrap is Err as it is now")
	}
}

func TestErrorText(t *testing.T) {
	number := api.ErrNone
	for i, c := range []struct {
		err  error
		text string
	}{
		{fault.Wrap("read", "/a", api.ErrNone), "read /a: refusal 20"},
		{fault.Wrap("unlink", "/a", api.ErrKept), "unlink /a: kept until its time has come"},
		{fault.Wrap("write", "/a", api.ErrSealed), "write /a: closed for good"},
		{fault.Wrap("", "", api.ErrArg), " : refusal 1"},
		{fault.Wrap("a b", "\xff\n", api.ErrOther), "a b \xff\n: refusal 99"},
		{fault.Wrap("get", "/none", fault.Wrap("open", "/none", api.ErrNone)), "get /none: open /none: refusal 20"},
		{nested(3, api.Errno(1234)), "o2 p: o1 p: o0 p: refusal 1234"},
		{&fault.Fault{Op: "o", Path: "p", Err: api.OK}, "o p: no error"},
		{&fault.Fault{Op: "o", Path: "p"}, "o p: nothing"},
		{&fault.Fault{}, " : nothing"},
		{&fault.Fault{Op: "o", Path: "p", Err: &fault.Fault{}}, "o p:  : nothing"},
		{fault.Wrap("o", "p", errors.New("other")), "o p: error"},
		{fault.Wrap("o", "p", around(api.ErrNone)), "o p: error"},
		{fault.Wrap("o", "p", around(fault.Wrap("q", "r", api.ErrNone))), "o p: error"},
		{fault.Wrap("o", "p", errors.Join(api.ErrNone)), "o p: error"},
		{fault.Wrap("o", "p", &number), "o p: error"},
		{fault.Wrap("o", "p", bag{}), "o p: error"},
		{fault.Wrap("o", "p", stands{code: api.ErrNone, at: &fault.Fault{}}), "o p: error"},
		{fault.Wrap("o", "p", wild{}), "o p: error"},
	} {
		if got := c.err.Error(); got != c.text {
			t.Errorf("P1.1: case %d: %q, must be %q", i, got, c.text)
		}
	}
}

func TestCode(t *testing.T) {
	other := errors.New("other")
	number := api.ErrNone
	for i, c := range []struct {
		err  error
		code api.Errno
	}{
		{nil, api.OK},
		{api.OK, api.OK},
		{api.ErrKept, api.ErrKept},
		{api.Errno(-7), -7},
		{api.Errno(1234), 1234},
		{fault.Wrap("a", "b", fault.Wrap("c", "d", api.ErrBad)), api.ErrBad},
		{around(fault.Wrap("a", "b", around(api.ErrFull))), api.ErrFull},
		{errors.Join(other, fault.Wrap("a", "b", api.ErrNone), api.ErrBad), api.ErrNone},
		{errors.Join(nested(2, errors.Join(other, api.ErrDir)), api.ErrBad), api.ErrDir},
		{bag{nil, other, api.ErrBusy}, api.ErrBusy},
		{around(stands{code: api.ErrSum}), api.ErrSum},
		{other, api.ErrOther},
		{&number, api.ErrOther},
		{bag{}, api.ErrOther},
		{bag{nil}, api.ErrOther},
		{fault.Wrap("a", "b", other), api.ErrOther},
		{&fault.Fault{Op: "a"}, api.ErrOther},
		{nested(4, nil), api.ErrOther},
		{none, api.ErrOther},
	} {
		if got := fault.Code(c.err); got != c.code {
			t.Errorf("P1.2: case %d: %d, must be %d", i, got, c.code)
		}
	}
}

func TestIs(t *testing.T) {
	other := errors.New("other")
	errs := []error{
		nil, api.OK, api.ErrNone, other, none, &fault.Fault{}, bag{nil, api.ErrOther},
		fault.Wrap("a", "b", api.ErrNone),
		fault.Wrap("a", "b", fault.Wrap("c", "d", around(api.ErrKept))),
		&fault.Fault{Err: api.OK},
		errors.Join(other, nested(2, api.ErrNone), api.ErrBad),
		around(stands{code: api.ErrBad}),
	}
	for i, err := range errs {
		for _, code := range []api.Errno{api.OK, api.ErrNone, api.ErrBad, api.ErrKept, api.ErrOther, -1} {
			if got := fault.Is(err, code); got != errors.Is(err, code) {
				t.Errorf("P1.2: case %d, %d: %v", i, code, got)
			}
		}
	}
	both := errors.Join(nested(1, api.ErrNone), nested(2, api.ErrBad))
	if !fault.Is(both, api.ErrNone) || !fault.Is(both, api.ErrBad) || fault.Is(both, api.ErrKept) {
		t.Error("P1.2: Is finds each number of a chain")
	}
	if fault.Is(other, api.ErrOther) || fault.Is(nil, api.OK) {
		t.Error("P1.2: Is finds no number that is not there")
	}
}

func TestWhereAndDepth(t *testing.T) {
	other := errors.New("other")
	a := fault.Wrap("a", "/a", api.ErrBad)
	b := fault.Wrap("b", "/b", other)
	for i, c := range []struct {
		err      error
		op, path string
		ok       bool
		depth    int
	}{
		{nil, "", "", false, 0},
		{api.OK, "", "", false, 0},
		{api.ErrBad, "", "", false, 0},
		{other, "", "", false, 0},
		{around(api.ErrBad), "", "", false, 0},
		{errors.Join(other, api.ErrBad), "", "", false, 0},
		{bag{}, "", "", false, 0},
		{a, "a", "/a", true, 1},
		{b, "b", "/b", true, 1},
		{fault.Wrap("a", "b", fault.Wrap("c", "d", api.ErrBad)), "a", "b", true, 2},
		{around(a), "a", "/a", true, 1},
		{around(fault.Wrap("x", "y", around(around(a)))), "x", "y", true, 2},
		{errors.Join(other, nil, b, a), "b", "/b", true, 1},
		{fault.Wrap("x", "y", errors.Join(api.ErrArg, b, a)), "x", "y", true, 2},
		{around(stands{at: &fault.Fault{Op: "s", Path: "t", Err: a}}), "s", "t", true, 2},
		{nested(7, other), "o6", "p", true, 7},
		{&fault.Fault{}, "", "", true, 1},
		{&fault.Fault{Path: "p"}, "", "p", true, 1},
		{&fault.Fault{Op: "o", Err: &fault.Fault{}}, "o", "", true, 2},
	} {
		op, path, ok := fault.Where(c.err)
		if op != c.op || path != c.path || ok != c.ok {
			t.Errorf("P1.2: case %d: Where: %q, %q, %v", i, op, path, ok)
		}
		if got := fault.Depth(c.err); got != c.depth {
			t.Errorf("P1.2: case %d: Depth: %d, must be %d", i, got, c.depth)
		}
	}
}

func TestDeepChains(t *testing.T) {
	err := nested(deepest, api.ErrSpace)
	if fault.Code(err) != api.ErrSpace || !fault.Is(err, api.ErrSpace) || fault.Is(err, api.ErrBad) {
		t.Error("P1.2: the number at the end of a deep chain")
	}
	if got := fault.Depth(err); got != deepest {
		t.Errorf("P1.2: Depth of a deep chain: %d", got)
	}
	if op, path, ok := fault.Where(err); op != "o65535" || path != "p" || !ok {
		t.Errorf("P1.2: Where of a deep chain: %q, %q, %v", op, path, ok)
	}
	text := err.Error()
	if !strings.HasPrefix(text, "o65535 p: o65534 p: ") || !strings.HasSuffix(text, ": o0 p: refusal 15") || strings.Count(text, ": ") != deepest {
		t.Errorf("P1.1: Error of a deep chain: %d bytes", len(text))
	}
}

func TestLongLists(t *testing.T) {
	list := make(bag, 1<<20+2)
	other := errors.New("other")
	for i := range list {
		list[i] = &fault.Fault{Op: "o", Path: "p", Err: other}
	}
	if fault.Code(list) != api.ErrOther || fault.Is(list, api.ErrTail) {
		t.Error("P1.2: a long list without a number")
	}
	list[len(list)-1] = api.ErrTail
	if fault.Code(list) != api.ErrTail || !fault.Is(list, api.ErrTail) {
		t.Error("P1.2: the number at the end of a long list")
	}
}

// askAll makes each call on err: none may panic, or go on for ever.
func askAll(t *testing.T, name string, err error) {
	t.Helper()
	defer func() {
		if r := recover(); r != nil {
			t.Errorf("R1: %s: a panic: %v", name, r)
		}
	}()
	if fault.Code(err) != api.ErrOther || fault.Is(err, api.ErrNone) {
		t.Errorf("P1.2: %s: a number where there is none", name)
	}
	fault.Where(err)
	fault.Depth(err)
	f, ok := fault.Wrap("o", "p", err).(*fault.Fault)
	if !ok || !strings.HasPrefix(f.Error(), "o p: ") || f.Unwrap() == nil {
		t.Errorf("P1.1: %s: Wrap", name)
	}
}

func TestNilFault(t *testing.T) {
	askAll(t, "nil", none)
	askAll(t, "nil within", &fault.Fault{Err: none})
	if none.Error() == "" {
		t.Error("R7: no text is empty")
	}
}

func TestErrorsThatPanic(t *testing.T) {
	askAll(t, "panics", wild{})
	askAll(t, "list panics", wildList{})
	askAll(t, "panics within", nested(2, around(wild{})))
	askAll(t, "panics among others", errors.Join(errors.New("other"), wildList{}))
	err := nested(3, wild{})
	if op, path, ok := fault.Where(err); op != "o2" || path != "p" || !ok || fault.Depth(err) != 3 {
		t.Errorf("P1.2: Faults around an error that panics: %q, %q, %v", op, path, ok)
	}
	if fault.Code(errors.Join(api.ErrNone, wild{})) != api.ErrNone {
		t.Error("P1.2: a number ahead of an error that panics")
	}
}

func TestChainsWithoutAnEnd(t *testing.T) {
	self := &fault.Fault{Op: "x", Path: "y"}
	self.Err = self
	one, two := &fault.Fault{Op: "one"}, &fault.Fault{Op: "two"}
	one.Err, two.Err = two, around(one)
	fan := &fault.Fault{}
	fan.Err = errors.Join(fan, fan, errors.New("other"))
	for name, err := range map[string]error{
		"itself": self, "each other": one, "around itself": around(self), "many times itself": fan,
		"another's": circle{}, "another's within": nested(2, circle{}), "new ones": fountain{},
	} {
		askAll(t, name, err)
	}
	if op, path, ok := fault.Where(self); op != "x" || path != "y" || !ok {
		t.Errorf("P1.2: the first Fault of a chain without an end: %q, %q, %v", op, path, ok)
	}
}

// twice is err, joined with itself forty times over, by each of the means by
// which an error holds several.
func twice(err error) map[string]error {
	join, row, deep := err, err, err
	for range 40 {
		join = errors.Join(join, join)
		row = bag{row, nil, row}
		deep = &fault.Fault{Op: "o", Path: "p", Err: errors.Join(deep, deep)}
	}
	return map[string]error{"joined": join, "a list": row, "Faults": deep}
}

func TestWhatIsJoinedWithItself(t *testing.T) {
	for name, err := range twice(api.ErrNone) {
		if fault.Code(err) != api.ErrNone || !fault.Is(err, api.ErrNone) || fault.Is(err, api.ErrBad) {
			t.Errorf("P1.2: %s: the number at the end of what is joined with itself", name)
		}
	}
	for name, err := range twice(errors.New("other")) {
		askAll(t, name, err)
		if fault.Code(errors.Join(err, api.ErrBusy)) != api.ErrBusy || !fault.Is(errors.Join(err, api.ErrBusy), api.ErrBusy) {
			t.Errorf("P1.2: %s: the number behind what is joined with itself", name)
		}
	}
	inner := fault.Wrap("a", "b", fault.Wrap("c", "d", api.ErrNone))
	for _, name := range []string{"joined", "a list"} {
		err := twice(inner)[name]
		if op, path, ok := fault.Where(err); op != "a" || path != "b" || !ok || fault.Depth(err) != 2 {
			t.Errorf("P1.2: %s: the place of what is joined with itself: %q, %q, %v", name, op, path, ok)
		}
	}
	for name, err := range twice(api.OK) {
		if fault.Wrap("a", "b", err) != nil {
			t.Errorf("P1.1: %s: Wrap of one whose Code is OK", name)
		}
	}
}

func TestWhatComesFirstIsFound(t *testing.T) {
	self := &fault.Fault{}
	self.Err = errors.Join(self, self)
	for name, rest := range map[string]error{"itself": self, "another's": circle{}, "panics": wild{}} {
		err := errors.Join(fault.Wrap("a", "b", api.ErrNone), rest, api.ErrBad)
		if fault.Code(err) != api.ErrNone || !fault.Is(err, api.ErrNone) {
			t.Errorf("P1.2: %s: the number ahead of it", name)
		}
		if op, path, ok := fault.Where(err); op != "a" || path != "b" || !ok || fault.Depth(err) != 1 {
			t.Errorf("P1.2: %s: the place ahead of it: %q, %q, %v", name, op, path, ok)
		}
	}
}

func TestAnErrorThatFillsInAndSaysNo(t *testing.T) {
	if got := fault.Code(nested(1, liar{})); got != api.ErrOther {
		t.Errorf("P1.2: Code where errors.As finds nothing: %d", got)
	}
	if op, path, ok := fault.Where(liar{}); op != "" || path != "" || ok || fault.Depth(liar{}) != 0 {
		t.Errorf("P1.2: Where of none: %q, %q, %v", op, path, ok)
	}
}

func TestArgumentsAreNotChanged(t *testing.T) {
	list := bag{api.ErrNone, errors.New("other"), api.ErrBad}
	room := list[:2]
	f := &fault.Fault{Op: "o", Path: "p", Err: room}
	fault.Code(f)
	fault.Is(f, api.ErrKept)
	fault.Where(f)
	fault.Depth(f)
	if f.Error() == "" || f.Op != "o" || f.Path != "p" || list[0] != api.ErrNone || list[1].Error() != "other" || list[2] != api.ErrBad {
		t.Error("R2: what is handed in is not changed")
	}
}
