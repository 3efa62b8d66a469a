package state_test

import (
	"bytes"
	"math/rand"
	"slices"
	"strings"
	"testing"

	"permafrost/api"
	"permafrost/clock"
	"permafrost/state"
	"permafrost/tree"
)

// model is a state as the chapters tell it, kept as lists of whole paths: slow,
// and another way than the program's.
type model struct {
	now   uint64
	paths map[string]*thing // `/` as no bytes
	snaps map[int]map[string]*thing
	next  int
	fds   [mostOpen]*fd
}

// thing is a node; how many names it has, its paths tell.
type thing struct {
	id, kind int
	data     string
	until    uint64
	closed   bool
}

// fd writes to a thing, or reads some bytes.
type fd struct {
	to   *thing
	data string
}

func newModel() *model {
	root := &thing{kind: dir, closed: true}
	return &model{paths: map[string]*thing{"": root}, snaps: map[int]map[string]*thing{}, next: 1}
}

// splits is the path as the model has it.
func splits(p string) (string, api.Errno) {
	if !strings.HasPrefix(p, "/") {
		return "", api.ErrForm
	}
	if p == "/" {
		return "", api.OK
	}
	l := strings.Split(p[1:], "/")
	for _, name := range l {
		if name == "" || len(name) > 16 || name == "." || name == ".." || strings.Trim(name, "abcdefghijklmnopqrstuvwxyz0123456789.-_") != "" {
			return "", api.ErrForm
		}
	}
	if len(l) > 8 {
		return "", api.ErrLong
	}
	return p, api.OK
}

// above is where the last name of a path stands.
func above(p string) string {
	return p[:strings.LastIndex(p, "/")]
}

func depth(p string) int { return strings.Count(p, "/") }

func within(p, of string) bool { return p == of || strings.HasPrefix(p, of+"/") }

// looks is the thing at p.
func looks(paths map[string]*thing, p string) (*thing, api.Errno) {
	at := paths[""]
	for i := 1; i <= len(p); i++ {
		if i < len(p) && p[i] != '/' {
			continue
		}
		if at.kind == file {
			return nil, api.ErrNotDir
		}
		if at = paths[p[:i]]; at == nil {
			return nil, api.ErrNone
		}
	}
	return at, api.OK
}

// places is the refusal of the place of p.
func places(paths map[string]*thing, p string) api.Errno {
	if p == "" {
		return api.ErrArg
	}
	x, why := looks(paths, above(p))
	if why == api.OK && x.kind == file {
		return api.ErrNotDir
	}
	return why
}

func links(paths map[string]*thing, x *thing) int {
	n := 0
	for _, y := range paths {
		if y == x {
			n++
		}
	}
	return n
}

// below are the names that stand in p, rising.
func below(paths map[string]*thing, p string) []string {
	var l []string
	for q := range paths {
		if q != "" && above(q) == p {
			l = append(l, q[len(p)+1:])
		}
	}
	slices.Sort(l)
	return l
}

// byID are all things that are there, those too that are written to without
// having a name.
func (m *model) byID() map[int]*thing {
	all := map[int]*thing{}
	for _, x := range m.paths {
		all[x.id] = x
	}
	for _, d := range m.fds {
		if d != nil && d.to != nil {
			all[d.to.id] = d.to
		}
	}
	return all
}

func (m *model) free() int {
	return slices.Index(m.fds[:], nil)
}

func (m *model) make(p string, kind int) (*thing, api.Errno) {
	if why := places(m.paths, p); why != api.OK {
		return nil, why
	}
	if m.paths[p] != nil {
		return nil, api.ErrThere
	}
	all := m.byID()
	if len(all) == mostNodes {
		return nil, api.ErrMany
	}
	x := &thing{kind: kind, closed: kind == dir}
	for all[x.id] != nil {
		x.id++
	}
	m.paths[p] = x
	return x, api.OK
}

// committed is a copy of what is closed.
func (m *model) committed() map[string]*thing {
	copies, paths := map[*thing]*thing{}, map[string]*thing{}
	for p, x := range m.paths {
		if !x.closed {
			continue
		}
		if copies[x] == nil {
			y := *x
			copies[x] = &y
		}
		paths[p] = copies[x]
	}
	return paths
}

func (m *model) settle() {
	m.paths = m.committed()
	m.fds = [mostOpen]*fd{}
}

// bound tells if one of them is not due.
func (m *model) bound(paths map[string]*thing) bool {
	for _, x := range paths {
		if x.kind == file && m.now < x.until {
			return true
		}
	}
	return false
}

func (m *model) do(o api.Op) api.Reply {
	p, to, why := "", "", api.OK
	switch o.Kind {
	case 1, 2, 3, 7, 8, 9, 10, 11, 12, 13:
		p, why = splits(o.Path)
	}
	if why == api.OK && (o.Kind == 7 || o.Kind == 10) {
		to, why = splits(o.To)
	}
	if why != api.OK {
		return refused(why)
	}
	switch o.Kind {
	case 1, 2, 7, 8, 9, 10:
		return m.doName(o.Kind, p, to)
	case 3, 11, 12:
		return m.doSnap(o, p)
	case 4, 5, 6:
		return m.doFile(o)
	case 13:
		return refused(m.keep(p, o.Until))
	case 14:
		if len(m.snaps) == mostSnaps {
			return refused(api.ErrMany)
		}
		m.snaps[m.next] = m.committed()
		m.next++
		return number(m.next - 1)
	case 15:
		if m.snaps[o.Snap] == nil {
			return refused(api.ErrSnap)
		}
		if m.bound(m.snaps[o.Snap]) {
			return refused(api.ErrKept)
		}
		delete(m.snaps, o.Snap)
	case 16:
		if o.Until <= lastTime {
			m.now = max(m.now, o.Until)
		}
	case 17:
	default:
		return refused(api.ErrKind)
	}
	return ok()
}

// doName is for what changes names of now.
func (m *model) doName(kind int, p, to string) api.Reply {
	switch kind {
	case 1:
		if m.free() < 0 {
			return refused(api.ErrBusy)
		}
		x, why := m.make(p, file)
		if why != api.OK {
			return refused(why)
		}
		n := m.free()
		m.fds[n] = &fd{to: x}
		return number(n)
	case 2:
		_, why := m.make(p, dir)
		return refused(why)
	case 7:
		return refused(m.link(p, to))
	case 8:
		return refused(m.unlink(p))
	case 9:
		x, why := looks(m.paths, p)
		switch {
		case why != api.OK:
		case x.kind == file:
			why = api.ErrNotDir
		case p == "":
			why = api.ErrArg
		case len(below(m.paths, p)) > 0:
			why = api.ErrFull
		default:
			delete(m.paths, p)
		}
		return refused(why)
	}
	return refused(m.rename(p, to))
}

func (m *model) link(p, to string) api.Errno {
	x, why := looks(m.paths, p)
	if why != api.OK {
		return why
	}
	if x.kind == dir {
		return api.ErrDir
	}
	if why := places(m.paths, to); why != api.OK {
		return why
	}
	if m.paths[to] != nil {
		return api.ErrThere
	}
	if links(m.paths, x) == mostNodes {
		return api.ErrMany
	}
	m.paths[to] = x
	return api.OK
}

func (m *model) unlink(p string) api.Errno {
	x, why := looks(m.paths, p)
	if why != api.OK {
		return why
	}
	if x.kind == dir {
		return api.ErrDir
	}
	if x.closed && links(m.paths, x) == 1 && m.now < x.until {
		return api.ErrKept
	}
	delete(m.paths, p)
	return api.OK
}

func (m *model) rename(p, to string) api.Errno {
	x, why := looks(m.paths, p)
	if why != api.OK {
		return why
	}
	if p == "" {
		return api.ErrArg
	}
	if why := places(m.paths, to); why != api.OK {
		return why
	}
	if x.kind == dir && within(to, p) {
		return api.ErrArg
	}
	if m.paths[to] == x {
		return api.OK
	}
	if m.paths[to] != nil {
		return api.ErrThere
	}
	moved := map[string]*thing{}
	for q, y := range m.paths {
		if !within(q, p) {
			moved[q] = y
			continue
		}
		q = to + q[len(p):]
		if depth(q) > 8 {
			return api.ErrLong
		}
		moved[q] = y
	}
	m.paths = moved
	return api.OK
}

func (m *model) keep(p string, until uint64) api.Errno {
	x, why := looks(m.paths, p)
	switch {
	case why != api.OK:
		return why
	case x.kind == dir:
		return api.ErrDir
	case !x.closed:
		return api.ErrBusy
	case until < x.until:
		return api.ErrKept
	case until > lastTime:
		return api.ErrArg
	}
	x.until = until
	return api.OK
}

// doSnap is for what may be asked of a snapshot, too.
func (m *model) doSnap(o api.Op, p string) api.Reply {
	paths := m.paths
	if o.Snap != 0 {
		paths = m.snaps[o.Snap]
	}
	if paths == nil {
		return refused(api.ErrSnap)
	}
	if o.Kind == 3 && m.free() < 0 {
		return refused(api.ErrBusy)
	}
	x, why := looks(paths, p)
	if why != api.OK {
		return refused(why)
	}
	switch o.Kind {
	case 11:
		if x.kind == file {
			return refused(api.ErrNotDir)
		}
		return called(below(paths, p)...)
	case 12:
		n := api.Node{ID: x.id, Kind: x.kind, Links: links(paths, x), Size: len(x.data), Until: x.until, Closed: x.closed}
		return noded(n)
	}
	if x.kind == dir {
		return refused(api.ErrDir)
	}
	if !x.closed {
		return refused(api.ErrBusy)
	}
	n := m.free()
	m.fds[n] = &fd{data: x.data}
	return number(n)
}

// doFile is for what asks a descriptor.
func (m *model) doFile(o api.Op) api.Reply {
	if o.FD < 0 || o.FD >= mostOpen || m.fds[o.FD] == nil {
		return refused(api.ErrBad)
	}
	d := m.fds[o.FD]
	writes := d.to != nil
	switch o.Kind {
	case 4:
		if writes {
			return refused(api.ErrBad)
		}
		if o.At < 0 || o.N < 0 {
			return refused(api.ErrArg)
		}
		rest := d.data[min(o.At, len(d.data)):]
		return bytesOf(rest[:min(o.N, len(rest))])
	case 5:
		if !writes {
			return refused(api.ErrBad)
		}
		if len(o.Data) > mostWrite {
			return refused(api.ErrLong)
		}
		if len(d.to.data)+len(o.Data) > mostSize {
			return refused(api.ErrSpace)
		}
		d.to.data += string(o.Data)
		return number(len(o.Data))
	}
	if writes {
		if o.Until > lastTime {
			return refused(api.ErrArg)
		}
		d.to.closed, d.to.until = true, o.Until
	}
	m.fds[o.FD] = nil
	return ok()
}

// somePath is mostly one that may be there.
func somePath(r *rand.Rand) string {
	if r.Intn(40) == 0 {
		return []string{"", "/", "a", "/a/", "/A", "/a/b/c/a/b/c/a/b/c"}[r.Intn(6)]
	}
	p := ""
	for range 1 + r.Intn(3) {
		p += "/" + string(rune('a'+r.Intn(3)))
	}
	return p
}

// someTime is mostly one near to others.
func someTime(r *rand.Rand) uint64 {
	if r.Intn(30) == 0 {
		return lastTime + uint64(r.Intn(3)) - 1
	}
	return uint64(r.Intn(60))
}

// someOp is any operation. The clock goes on slowly, so that much is kept.
func someOp(r *rand.Rand, m *model) api.Op {
	o := api.Op{Kind: 1 + r.Intn(17), Path: somePath(r), To: somePath(r), FD: r.Intn(mostOpen+2) - 1, At: r.Intn(20) - 1, N: r.Intn(20) - 1, Until: someTime(r)}
	if r.Intn(60) == 0 {
		o.Kind = r.Intn(30) - 5
	}
	if r.Intn(3) == 0 {
		o.Snap = r.Intn(m.next+2) - 1
	}
	o.Data = bytes.Repeat([]byte{byte(r.Intn(256))}, r.Intn(30))
	if r.Intn(12) == 0 {
		o.Data = make([]byte, mostWrite-1+r.Intn(3))
	}
	switch o.Kind {
	case api.Tick:
		o.Until = m.now + uint64(r.Intn(3))
	case api.Forget:
		o.Snap = r.Intn(m.next + 1)
	}
	return o
}

// isLike holds all that is there against the model.
func (m *model) isLike(t *testing.T, s *state.State) {
	t.Helper()
	isNow(t, s, m.now)
	var used []int
	for n, d := range m.fds {
		if d != nil {
			used = append(used, n)
		}
	}
	isOpen(t, s, used...)
	all := m.byID()
	tr := s.Tree()
	if n := tr.Count(); n != len(all) {
		t.Fatalf("P14.1: %d nodes, must be %d", n, len(all))
	}
	for id, x := range all {
		b, _ := tr.Read(id, 0, mostSize)
		if n, _ := tr.Node(id); n.Kind != x.kind || string(b) != x.data || n.Closed != x.closed || n.Until != x.until {
			t.Fatalf("P14.1: node %d: %+v, must be %+v", id, n, x)
		}
	}
	for p := range m.paths {
		o := list("/"+strings.TrimPrefix(p, "/"), 0)
		if got, want := s.Do(o), m.do(o); !same(got, want) {
			t.Fatalf("P14.1: Do(%+v): %+v, must be %+v", o, got, want)
		}
	}
}

// keeps holds P14.4 of what was ahead of an operation, or of a Save.
func keeps(t *testing.T, was *tree.Tree, s *state.State) {
	t.Helper()
	is := s.Tree()
	for id, left := 0, was.Count(); left > 0; id++ {
		old, there := was.Node(id)
		if !there {
			continue
		}
		left--
		if old.Kind != file || !old.Closed || clock.Due(s.Now(), old.Until) {
			continue
		}
		a, _ := was.Read(id, 0, mostSize)
		b, _ := is.Read(id, 0, mostSize)
		n, _ := is.Node(id)
		if !n.Closed || n.Until < old.Until || len(is.Names(id)) == 0 || !bytes.Equal(a, b) {
			t.Fatalf("P14.4: what was %+v is %+v", old, n)
		}
	}
}

func TestManyOperations(t *testing.T) {
	r := rand.New(rand.NewSource(142))
	done := map[api.Errno]int{}
	for range 40 {
		s, m := state.New(), newModel()
		for i := range 400 {
			o := someOp(r, m)
			was, before := s.Tree(), told(s)
			want, got := m.do(o), s.Do(o)
			if !same(got, want) {
				t.Fatalf("P14.1: Do(%+v): %+v, must be %+v", o, got, want)
			}
			if (want.Err != api.OK || !state.Turns(o)) && told(s) != before {
				t.Fatalf("R3, P14.3: Do(%+v): %+v, and something is changed", o, got)
			}
			done[want.Err]++
			keeps(t, was, s)
			m.isLike(t, s)
			if i%100 == 99 {
				was = s.Settled().Tree()
				s = loads(t, "what came to be", s.Save())
				m.settle()
				keeps(t, was, s)
				m.isLike(t, s)
			}
		}
	}
	for _, why := range []api.Errno{api.OK, api.ErrArg, api.ErrLong, api.ErrMany, api.ErrForm, api.ErrNone, api.ErrThere, api.ErrDir, api.ErrNotDir, api.ErrFull, api.ErrBusy, api.ErrBad, api.ErrKept, api.ErrSnap, api.ErrKind} {
		if done[why] < 10 {
			t.Errorf("only %d operations answered %d", done[why], int(why))
		}
	}
}
