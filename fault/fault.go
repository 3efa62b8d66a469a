// Package fault: errors that say where: see doc/01-fault.md.
package fault

import (
	"errors"
	"strings"

	"permafrost/api"
)

// Fault is an error and where it came up.
type Fault struct {
	Op, Path string
	Err      error
}

// Error is made link by link, not by each link's own Error: a deep chain would
// be copied once a link, and one that leads back to itself would have no end.
func (f *Fault) Error() string {
	var text strings.Builder
	told := map[*Fault]struct{}{}
	err := error(f)
	for {
		link, ok := asFault(err)
		if _, again := told[link]; !ok || again {
			break
		}
		told[link] = struct{}{}
		op, path := link.place()
		text.WriteString(op + " " + path + ": ")
		err = link.Unwrap()
	}
	text.WriteString(lastWords(err))
	return text.String()
}

// Unwrap lets errors.Is and errors.As go on to what was wrapped.
func (f *Fault) Unwrap() error {
	if f == nil {
		return nil
	}
	return f.Err
}

// place has an answer for a nil *Fault too, which an error may hold.
func (f *Fault) place() (op, path string) {
	if f == nil {
		return "", ""
	}
	return f.Op, f.Path
}

// Wrap answers no *Fault where nothing went wrong, so that a caller may wrap
// whatever it was answered.
func Wrap(op, path string, err error) error {
	if Code(err) == api.OK {
		return nil
	}
	return &Fault{Op: op, Path: path, Err: err}
}

// Code is the number by which a chain refuses.
func Code(err error) api.Errno {
	if err == nil {
		return api.OK
	}
	if code, ok := first[api.Errno](err); ok {
		return code
	}
	return api.ErrOther
}

// Is tells more than Code: a chain may hold several numbers.
func Is(err error, code api.Errno) bool {
	return search(err, func(e error) bool { return errors.Is(alone[api.Errno]{e}, code) })
}

// Where tells the place that was wrapped last: the outermost.
func Where(err error) (string, string, bool) {
	f, ok := first[*Fault](err)
	if !ok {
		return "", "", false
	}
	op, path := f.place()
	return op, path, true
}

// Depth counts no *Fault twice, so that a chain that leads back to itself has
// a depth too.
func Depth(err error) int {
	counted := map[*Fault]struct{}{}
	for len(counted) < mostDeep {
		f, ok := first[*Fault](err)
		if _, again := counted[f]; !ok || again {
			break
		}
		counted[f] = struct{}{}
		err = f.Unwrap()
	}
	return len(counted)
}
