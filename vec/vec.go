// Package vec is layer 1: amounts of resources, checked. See shared/doc/01-vec.md.
package vec

import "quitrent/api"

// Good reports whether each amount of v is between 0 and api.MaxVal.
func Good(v api.Vec) bool {
	for _, n := range v {
		if n < 0 || n > api.MaxVal {
			return false
		}
	}
	return true
}

// Add returns the sum of a and b; ErrArg, ErrOver.
func Add(a, b api.Vec) (api.Vec, error) {
	if !Good(a) || !Good(b) {
		return api.Vec{}, api.ErrArg
	}
	for i, n := range b {
		a[i] += n
	}
	return checked(a)
}

// Sub returns a less b; ErrArg, ErrOver.
func Sub(a, b api.Vec) (api.Vec, error) {
	if !Good(a) || !Good(b) {
		return api.Vec{}, api.ErrArg
	}
	for i, n := range b {
		a[i] -= n
	}
	return checked(a)
}

// Scale returns n times v; ErrArg, ErrOver.
func Scale(v api.Vec, n int) (api.Vec, error) {
	if !Good(v) || n < 0 || n > api.MaxRatio {
		return api.Vec{}, api.ErrArg
	}
	for i := range v {
		v[i] *= n
	}
	return checked(v)
}

// checked returns a result if it is valid. The arguments of the callers are
// valid, so that no result of theirs has wrapped round.
func checked(v api.Vec) (api.Vec, error) {
	if !Good(v) {
		return api.Vec{}, api.ErrOver
	}
	return v, nil
}

// Sum returns the sum of all vectors of list; a Fault "sum" at the first
// vector that can't be added, with ErrArg or ErrOver.
func Sum(list ...api.Vec) (api.Vec, error) {
	var total api.Vec
	for i, v := range list {
		next, err := Add(total, v)
		if err != nil {
			return api.Vec{}, &api.Fault{Op: "sum", At: i, Err: err}
		}
		total = next
	}
	return total, nil
}

// Fits reports whether each amount of a is at most that of b.
func Fits(a, b api.Vec) bool {
	for i, n := range a {
		if n > b[i] {
			return false
		}
	}
	return true
}

// Less reports whether a has less than b of the first resource in which they
// differ.
func Less(a, b api.Vec) bool {
	for i, n := range a {
		if n != b[i] {
			return n < b[i]
		}
	}
	return false
}

// None reports whether all amounts of v are 0.
func None(v api.Vec) bool {
	return v == api.Vec{}
}
