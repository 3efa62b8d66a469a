package path_test

import (
	"regexp"
	"slices"
	"strings"
	"testing"

	"permafrost/api"
	"permafrost/path"
)

// letters are all that may stand in a name.
const letters = "abcdefghijklmnopqrstuvwxyz0123456789.-_"

// whole shows the spare room too.
func whole(l []string) []string { return l[:cap(l)] }

// roomy is a list of the names, with room behind them that is not empty.
func roomy(names ...string) []string {
	l := append(slices.Clone(names), "x1", "x2", "x3")
	return l[:len(names)]
}

// lists are all lists of 0 to most names, each of them one of those given.
func lists(most int, names ...string) [][]string {
	out := [][]string{nil}
	for from := 0; most > 0; most-- {
		to := len(out)
		for _, l := range out[from:to] {
			for _, name := range names {
				out = append(out, append(slices.Clone(l), name))
			}
		}
		from = to
	}
	return out
}

// splits holds what Split makes of s against what it must be.
func splits(t *testing.T, s string, want []string, why api.Errno) {
	t.Helper()
	got, no := path.Split(s)
	if no != why || !slices.Equal(got, want) {
		t.Errorf("P7.1: Split(%.60q): %.60q, %d, must be %.60q, %d", s, got, no, want, why)
	}
}

func TestGoodLetters(t *testing.T) {
	for c := range 256 {
		one := string([]byte{byte(c)})
		want := strings.Contains(letters, one)
		for _, name := range []string{one + "a", "a" + one, "a" + one + "b", "abcdefghijklmno" + one, one + "bcdefghijklmnop"} {
			if got := path.Good(name); got != want {
				t.Errorf("P7.1: Good(%q): %v, must be %v", name, got, want)
			}
		}
		if got := path.Good(one); got != (want && one != ".") {
			t.Errorf("P7.1: Good(%q): %v", one, got)
		}
	}
}

func TestGoodLengths(t *testing.T) {
	for n := range 70 {
		for _, c := range []string{"a", "9", "-", "_"} {
			name := strings.Repeat(c, n)
			if got, want := path.Good(name), n >= 1 && n <= 16; got != want {
				t.Errorf("P7.1: Good(%q), %d bytes: %v, must be %v", name, n, got, want)
			}
		}
	}
	for _, n := range []int{256, 257, 272, 1 << 16, 1<<16 + 1, 1 << 24} {
		if path.Good(strings.Repeat("a", n)) {
			t.Errorf("P7.1: Good of %d bytes: true", n)
		}
	}
}

func TestGoodDots(t *testing.T) {
	for n := range 20 {
		if got, want := path.Good(strings.Repeat(".", n)), n >= 3 && n <= 16; got != want {
			t.Errorf("P7.1: Good of %d dots: %v, must be %v", n, got, want)
		}
	}
	for _, name := range []string{".a", "a.", "..a", "a..", ".a.", ".-", "-.", "._", "a..b", ".0"} {
		if !path.Good(name) {
			t.Errorf("P7.1: Good(%q): false", name)
		}
	}
}

// Letters that look like ones that may be, or are made of more than one byte.
func TestGoodBytes(t *testing.T) {
	for _, name := range []string{"ä", "é", "a\u0301", "\u0661", "\u2024", "\u2013", "\u0161", "\u3061", "a b", "a\x00", "\x00", "a/b", "/", "/a", "a/", "A", "aZ", "a\n", " a", "a ", "a\\b", "\xff", "\xc3"} {
		if path.Good(name) {
			t.Errorf("P7.1: Good(%q): true", name)
		}
	}
}

// Against another's program, all short texts.
func TestGoodOfAll(t *testing.T) {
	form := regexp.MustCompile(`\A[a-z0-9._-]{1,16}\z`)
	for _, l := range lists(6, "a", ".", "-", "A", "/") {
		name := strings.Join(l, "")
		want := form.MatchString(name) && name != "." && name != ".."
		if got := path.Good(name); got != want {
			t.Errorf("P7.1: Good(%q): %v, must be %v", name, got, want)
		}
	}
}

func TestSplitNames(t *testing.T) {
	for s, want := range map[string][]string{
		"/":                 nil,
		"/a":                {"a"},
		"/a/b":              {"a", "b"},
		"/b/a":              {"b", "a"},
		"/a/a/a":            {"a", "a", "a"},
		"/ab/c":             {"ab", "c"},
		"/a/bc":             {"a", "bc"},
		"/.../-/_/0":        {"...", "-", "_", "0"},
		"/.a/..b/c.":        {".a", "..b", "c."},
		"/1/2/3/4/5/6/7/8":  {"1", "2", "3", "4", "5", "6", "7", "8"},
		"/a23456789012345z": {"a23456789012345z"},
	} {
		splits(t, s, want, api.OK)
	}
}

func TestSplitForm(t *testing.T) {
	for _, s := range []string{
		"", "a", "a/b", "a/", "./a", "../a", ".", " /a", "\x00/a", "\\a", "~/a",
		"//", "///", "/a/", "/a//", "//a", "/a//b", "/a/b/", "/a/b//",
		"/.", "/..", "/./a", "/../a", "/a/.", "/a/..", "/a/./b", "/a/../b",
		"/A", "/a/B", "/A/b", "/a b", "/a/ ", "/ ", "/a\x00", "/\x00", "/a\n", "/ä", "/a/\xff", "/a\\b",
		"/a2345678901234567", "/a/a2345678901234567", "/a2345678901234567/a",
	} {
		splits(t, s, nil, api.ErrForm)
	}
}

// At most MaxDepth names; a wrong form is told first, wherever it stands.
func TestSplitDepth(t *testing.T) {
	for n := 1; n < 40; n++ {
		names := slices.Repeat([]string{"a"}, n)
		s := "/" + strings.Join(names, "/")
		if n <= 8 {
			splits(t, s, names, api.OK)
		} else {
			splits(t, s, nil, api.ErrLong)
		}
		for _, wrong := range []string{"", ".", "..", "A", "a2345678901234567"} {
			splits(t, s+"/"+wrong, nil, api.ErrForm)
			splits(t, "/"+wrong+s, nil, api.ErrForm)
			splits(t, s+"/"+wrong+s, nil, api.ErrForm)
		}
		splits(t, s[1:], nil, api.ErrForm)
	}
}

// The greatest path that may be, and what is one past it.
func TestSplitEdges(t *testing.T) {
	name := "a23456789012345z"
	names := slices.Repeat([]string{name}, 8)
	s := "/" + strings.Join(names, "/")
	splits(t, s, names, api.OK)
	splits(t, s+"a", nil, api.ErrForm)
	splits(t, s+"/", nil, api.ErrForm)
	splits(t, s+"/a", nil, api.ErrLong)
	splits(t, s+"/"+name, nil, api.ErrLong)
	splits(t, s+"/"+name+"a", nil, api.ErrForm)
}

// A path of very many names is refused all the same, and not gathered first.
func TestSplitOfVeryMany(t *testing.T) {
	s := strings.Repeat("/a", 1<<22)
	splits(t, s, nil, api.ErrLong)
	splits(t, s+"/", nil, api.ErrForm)
	splits(t, "/"+strings.Repeat("a", 1<<22), nil, api.ErrForm)
	splits(t, strings.Repeat("/", 1<<22), nil, api.ErrForm)
}

// Against another's program, all short texts, and back by Join.
func TestSplitOfAll(t *testing.T) {
	form := regexp.MustCompile(`\A(/[a-z0-9._-]{1,16})+\z`)
	dots := regexp.MustCompile(`/\.\.?(/|\z)`)
	for _, l := range lists(7, "/", "a", ".", "B") {
		s := strings.Join(l, "")
		switch {
		case s == "/":
			splits(t, s, nil, api.OK)
		case form.MatchString(s) && !dots.MatchString(s):
			splits(t, s, strings.Split(s[1:], "/"), api.OK)
		default:
			splits(t, s, nil, api.ErrForm)
		}
		if got, why := path.Split(s); why == api.OK && path.Join(got) != s {
			t.Errorf("P7.1: Join(Split(%q)): %q", s, path.Join(got))
		}
	}
}

// Each answer is a list of its own.
func TestSplitTwice(t *testing.T) {
	first, _ := path.Split("/a/b/c")
	second, _ := path.Split("/a/b/c")
	for i := range whole(first) {
		whole(first)[i] = "z"
	}
	if !slices.Equal(second, []string{"a", "b", "c"}) {
		t.Errorf("R2: Split: one answer is seen in another: %q", second)
	}
	splits(t, "/a/b/c", []string{"a", "b", "c"}, api.OK)
}

func TestJoin(t *testing.T) {
	if got := path.Join(nil); got != "/" {
		t.Errorf("P7.1: Join of nil: %q", got)
	}
	if got := path.Join([]string{}); got != "/" {
		t.Errorf("P7.1: Join of none: %q", got)
	}
	if got := path.Join(roomy()); got != "/" {
		t.Errorf("P7.1: Join of none with room: %q", got)
	}
	for want, l := range map[string][]string{
		"/a":                  {"a"},
		"/a/b":                {"a", "b"},
		"/b/a":                {"b", "a"},
		"/ab/c/...":           {"ab", "c", "..."},
		"/1/2/3/4/5/6/7/8":    {"1", "2", "3", "4", "5", "6", "7", "8"},
		"/1/2/3/4/5/6/7/8/9":  {"1", "2", "3", "4", "5", "6", "7", "8", "9"},
		"/a23456789012345z/b": {"a23456789012345z", "b"},
	} {
		if got := path.Join(roomy(l...)); got != want {
			t.Errorf("P7.1: Join(%q): %q, must be %q", l, got, want)
		}
	}
}

// Every list of good names comes back.
func TestJoinBack(t *testing.T) {
	for _, l := range lists(8, "a", "b-") {
		splits(t, path.Join(l), l, api.OK)
	}
}

// What is no name is joined as it is: Join asks no form.
func TestJoinOfWhatIsNone(t *testing.T) {
	for want, l := range map[string][]string{
		"/A/..":  {"A", ".."},
		"/a//b":  {"a", "", "b"},
		"/":      {""},
		"//":     {"", ""},
		"/a/b/c": {"a/b", "c"},
	} {
		if got := path.Join(l); got != want {
			t.Errorf("P7.1: Join(%q): %q, must be %q", l, got, want)
		}
	}
	l := slices.Repeat([]string{"abc"}, 1<<20)
	if got := path.Join(l); got != strings.Repeat("/abc", 1<<20) {
		t.Errorf("P7.1: Join of 2^20 names: %d bytes", len(got))
	}
}

func TestParent(t *testing.T) {
	for _, l := range lists(5, "a", "b", "")[1:] {
		n := len(l)
		given := roomy(l...)
		up, last, why := path.Parent(given)
		if why != api.OK || last != l[n-1] || !slices.Equal(up, l[:n-1]) {
			t.Errorf("P7.1: Parent(%q): %q, %q, %d", l, up, last, why)
		}
		if !slices.Equal(whole(given)[:n+3], append(slices.Clone(l), "x1", "x2", "x3")) {
			t.Errorf("R2: Parent(%q) changed what was handed in: %q", l, whole(given))
		}
	}
	many := slices.Repeat([]string{"a"}, 30)
	if up, last, why := path.Parent(append(many, "b")); !slices.Equal(up, many) || last != "b" || why != api.OK {
		t.Errorf("P7.1: Parent of 31 names: %d names, %q, %d", len(up), last, why)
	}
}

func TestParentOfNone(t *testing.T) {
	for _, l := range [][]string{nil, {}, roomy()} {
		if up, last, why := path.Parent(l); len(up) > 0 || last != "" || why != api.ErrArg {
			t.Errorf("P7.1: Parent of none: %q, %q, %d, must be none, none, %d", up, last, why, api.ErrArg)
		}
	}
}

// What Parent answers has no memory in common with what it is given.
func TestParentByItself(t *testing.T) {
	for n := 1; n < 10; n++ {
		given := roomy(slices.Repeat([]string{"a"}, n)...)
		was := slices.Clone(whole(given))
		up, _, _ := path.Parent(given)
		for i := range whole(up) {
			whole(up)[i] = "z"
		}
		if !slices.Equal(whole(given), was) {
			t.Errorf("R2: Parent of %d names: what is written into the answer is seen in what was given: %q", n, whole(given))
		}
		up, _, _ = path.Parent(given)
		for i := range whole(given) {
			whole(given)[i] = "y"
		}
		if !slices.Equal(up, slices.Repeat([]string{"a"}, n-1)) {
			t.Errorf("R2: Parent of %d names: what is written into what was given is seen in the answer: %q", n, up)
		}
	}
}

func TestWithin(t *testing.T) {
	for _, c := range []struct {
		l, of []string
		want  bool
	}{
		{nil, nil, true},
		{[]string{}, nil, true},
		{nil, []string{}, true},
		{[]string{"a"}, nil, true},
		{nil, []string{"a"}, false},
		{nil, []string{""}, false},
		{[]string{"a"}, []string{"a"}, true},
		{[]string{"a"}, []string{"b"}, false},
		{[]string{"a", "b"}, []string{"a"}, true},
		{[]string{"a", "b"}, []string{"b"}, false},
		{[]string{"a", "b"}, []string{"a", "b"}, true},
		{[]string{"a", "b"}, []string{"b", "a"}, false},
		{[]string{"a", "b"}, []string{"a", "c"}, false},
		{[]string{"a", "b"}, []string{"c", "b"}, false},
		{[]string{"a"}, []string{"a", "b"}, false},
		{[]string{"ab"}, []string{"a"}, false},
		{[]string{"a"}, []string{"ab"}, false},
		{[]string{"ab", "c"}, []string{"a", "bc"}, false},
		{[]string{"a", "b"}, []string{"a/b"}, false},
		{[]string{"a/b"}, []string{"a"}, false},
		{[]string{"A"}, []string{"a"}, false},
		{[]string{"a", "b", "c"}, []string{"a", "b"}, true},
		{[]string{"a", "b", "c"}, []string{"a", "c"}, false},
		{[]string{"a", "b", "c"}, []string{"b", "c"}, false},
	} {
		if got := path.Within(c.l, c.of); got != c.want {
			t.Errorf("P7.1: Within(%q, %q): %v, must be %v", c.l, c.of, got, c.want)
		}
	}
}

// Against what Within means as texts: a path that goes on behind another.
func TestWithinOfAll(t *testing.T) {
	all := lists(4, "a", "b", "ab")
	for _, l := range all {
		for _, of := range all {
			want := strings.HasPrefix(strings.Join(l, "/")+"/", strings.Join(of, "/")+"/") || len(of) == 0
			if got := path.Within(roomy(l...), roomy(of...)); got != want {
				t.Errorf("P7.1: Within(%q, %q): %v, must be %v", l, of, got, want)
			}
		}
	}
}

// The room behind a list is no part of it.
func TestWithinRoom(t *testing.T) {
	both := []string{"a", "b", "c"}
	if path.Within(both[:1], both[:2]) {
		t.Error("P7.1, R5: Within of a list and the same with one name more: true")
	}
	if !path.Within(both[:2], both[:1]) {
		t.Error("P7.1, R5: Within of a list and its beginning: false")
	}
	if !path.Within(roomy("a"), roomy("a")) || !path.Within(roomy(), roomy()) {
		t.Error("P7.1, R5: Within of the same, with room: false")
	}
}

// Nothing that is handed in is changed, the room behind it neither.
func TestNothingIsChanged(t *testing.T) {
	l, of := roomy("a", "b", "c"), roomy("a", "b")
	path.Join(l)
	path.Parent(l)
	path.Within(l, of)
	if got := whole(l)[:6]; !slices.Equal(got, []string{"a", "b", "c", "x1", "x2", "x3"}) {
		t.Errorf("R2: a list was changed: %q", got)
	}
	if got := whole(of)[:5]; !slices.Equal(got, []string{"a", "b", "x1", "x2", "x3"}) {
		t.Errorf("R2: a list was changed: %q", got)
	}
}
