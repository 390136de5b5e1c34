// Package fault: errors that wrap one of api's numbers and say what was wrong.
package fault

import "conduit/api"

// Fault: a number and what was wrong. It is compared by value, so the same fault is the same error.
type Fault struct {
	num  api.Errno
	what string
}

// Of makes a fault of a number.
func Of(num api.Errno, what string) error { return Fault{num, what} }

// Error tells the number and what was wrong.
func (f Fault) Error() string { return f.num.Error() + ": " + f.what }

// Unwrap gives errors.Is and errors.As the number.
func (f Fault) Unwrap() error { return f.num }
