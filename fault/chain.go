package fault

import (
	"errors"

	"permafrost/api"
)

// A search gives up past these. The document lets 2^16 parts stand in one
// another, and no more than 2^27 errors find room in its 2^31 - 1 bytes.
const (
	mostDeep  = 1 << 18
	mostSteps = 1 << 27
	mostKept  = 1 << 20
)

// step is an error that a search has still to come to.
type step struct {
	err  error
	deep int
}

// row is a list of errors, as it stands in memory.
type row struct {
	first *error
	n     int
}

// search finds the first error of err's chain that hit holds of, in the order
// of errors.Is and errors.As. They themselves go on for ever where a chain
// leads back to itself, and go twice as long with each error that is joined
// with itself; here nothing is gone through again that was in vain before.
func search(err error, hit func(error) bool) bool {
	todo := []step{{err, 1}}
	faults, rows := map[*Fault]struct{}{}, map[row]struct{}{}
	for n := 0; len(todo) > 0; n++ {
		at := todo[len(todo)-1]
		todo = todo[:len(todo)-1]
		if at.deep > mostDeep || n == mostSteps {
			return false
		}
		if f, ok := asFault(at.err); at.err == nil || ok && again(faults, f) {
			continue
		}
		if holds(func() bool { return hit(at.err) }) {
			return true
		}
		one, many := within(at.err)
		if len(many) > 0 && again(rows, row{&many[0], len(many)}) {
			continue
		}
		todo = append(todo, step{one, at.deep + 1})
		for i := len(many) - 1; i >= 0; i-- {
			todo = append(todo, step{many[i], at.deep + 1})
		}
	}
	return false
}

// again tells whether key came up before. A search that has come to very many
// begins to remember anew: errors that make new ones without end must not fill
// the memory.
func again[K comparable](came map[K]struct{}, key K) bool {
	if _, ok := came[key]; ok {
		return true
	}
	if len(came) == mostKept {
		clear(came)
	}
	came[key] = struct{}{}
	return false
}

// first is what errors.As finds in err's chain.
func first[T error](err error) (T, bool) {
	var found, none T
	if search(err, func(e error) bool { return errors.As(alone[T]{e}, &found) }) {
		return found, true
	}
	return none, false
}

// alone is an error without what it wraps: errors.Is and errors.As ask it, and
// go no further.
type alone[T error] struct {
	err error
}

func (a alone[T]) Error() string { return "alone" }

// Is answers what errors.Is finds of the error itself.
func (a alone[T]) Is(target error) bool {
	if a.err == target {
		return true
	}
	if e, ok := a.err.(interface{ Is(error) bool }); ok {
		return e.Is(target)
	}
	return false
}

// As answers what errors.As finds of the error itself.
func (a alone[T]) As(target any) bool {
	if at, ok := target.(*T); ok {
		if e, ok := a.err.(T); ok {
			*at = e
			return true
		}
	}
	if e, ok := a.err.(interface{ As(any) bool }); ok {
		return e.As(target)
	}
	return false
}

// within is what err wraps, in either of the two ways that package errors
// knows. An error of another's making may panic when it is asked: it then
// wraps nothing.
func within(err error) (one error, many []error) {
	defer func() {
		if recover() != nil {
			one, many = nil, nil
		}
	}()
	switch e := err.(type) {
	case interface{ Unwrap() error }:
		return e.Unwrap(), nil
	case interface{ Unwrap() []error }:
		return nil, e.Unwrap()
	}
	return nil, nil
}

// holds is false where ask panics: the errors of others have methods Is, As
// and Unwrap of their own.
func holds(ask func() bool) (yes bool) {
	defer func() {
		if recover() != nil {
			yes = false
		}
	}()
	return ask()
}

// asFault looks at err alone, where errors.As would look within it.
func asFault(err error) (*Fault, bool) {
	f, ok := err.(*Fault)
	return f, ok
}

// lastWords never asks an error of another's making for its text, which may
// be anything.
func lastWords(err error) string {
	switch e := err.(type) {
	case nil:
		return "nothing"
	case api.Errno:
		return e.Error()
	}
	return "error"
}
