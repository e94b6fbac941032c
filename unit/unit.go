// Package unit is layer 1: see shared/doc/01-unit.md.
package unit

import "runaround/api"

// Most is what all numbers stay below.
const Most = 1 << 48

// wentOver is a type of its own, so that Try tells its panics from all others.
type wentOver struct{}

func may(n int) bool { return -Most < n && n < Most }

// Add adds, as long as nothing goes over.
func Add(a, b int) (int, bool) {
	// Asking of a and b first keeps a+b from wrapping round.
	if !may(a) || !may(b) || !may(a+b) {
		return 0, false
	}
	return a + b, true
}

// Sub takes away, as long as nothing goes over.
func Sub(a, b int) (int, bool) {
	// -b may be just if b may: the least int, which is its own negative, may not.
	return Add(a, -b)
}

// Sum adds many, as long as nothing goes over.
func Sum(l ...int) (int, bool) {
	sum := 0
	e := Try(func() {
		for _, n := range l {
			sum = Plus(sum, n)
		}
	})
	if e != api.OK {
		return 0, false
	}
	return sum, true
}

// Plus adds, within Try.
func Plus(a, b int) int { return orEnd(Add(a, b)) }

// Minus takes away, within Try.
func Minus(a, b int) int { return orEnd(Sub(a, b)) }

func orEnd(n int, ok bool) int {
	if !ok {
		panic(wentOver{})
	}
	return n
}

// Try does something, and tells whether something in it went over.
func Try(do func()) (e api.Errno) {
	defer func() {
		switch r := recover().(type) {
		case nil:
		case wentOver:
			e = api.ErrOver
		default:
			// Only what went over is Try's to end: what else panics is do's own.
			panic(r)
		}
	}()
	do()
	return api.OK
}
