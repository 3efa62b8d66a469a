package fault

import (
	"permafrost/api"
)

// A chain past these is taken for one without an end. The document lets 2^16
// parts stand in one another, and gives 2^31 - 1 items in all.
const (
	mostDeep  = 1 << 18
	mostSteps = 1<<31 - 1
)

// step is an error that a walk has still to come to.
type step struct {
	err  error
	deep int
}

// ends tells whether errors.Is and errors.As come to an end on err: they
// themselves go on for ever where a chain leads back to itself. If toFaults,
// a *Fault is an end, as it is for who looks for the first of them.
func ends(err error, toFaults bool) bool {
	todo := []step{{err, 1}}
	for n := 0; len(todo) > 0; n++ {
		at := todo[len(todo)-1]
		todo = todo[:len(todo)-1]
		if at.deep > mostDeep || n == mostSteps {
			return false
		}
		if _, ok := asFault(at.err); ok && toFaults {
			continue
		}
		one, many := within(at.err)
		if one != nil {
			todo = append(todo, step{one, at.deep + 1})
		}
		for _, e := range many {
			todo = append(todo, step{e, at.deep + 1})
		}
	}
	return true
}

// within is what err wraps, in either of the two ways that package errors
// knows. An error of another's making may panic when it is asked: it then
// wraps nothing.
func within(err error) (one error, many []error) {
	defer func() {
		if recover() != nil {
			one, many = nil, nil
		}
	}()
	switch e := err.(type) {
	case interface{ Unwrap() error }:
		return e.Unwrap(), nil
	case interface{ Unwrap() []error }:
		return nil, e.Unwrap()
	}
	return nil, nil
}

// holds is false where ask panics: the errors of others have methods Is, As
// and Unwrap of their own.
func holds(ask func() bool) (yes bool) {
	defer func() {
		if recover() != nil {
			yes = false
		}
	}()
	return ask()
}

// asFault looks at err alone, where errors.As would look within it.
func asFault(err error) (*Fault, bool) {
	f, ok := err.(*Fault)
	return f, ok
}

// lastWords never asks an error of another's making for its text, which may
// be anything.
func lastWords(err error) string {
	switch e := err.(type) {
	case nil:
		return "nothing"
	case api.Errno:
		return e.Error()
	}
	return "error"
}
