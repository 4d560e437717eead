// Package fix is layer 1: fixed numbers: see shared/doc/01-fix.md.
package fix

import (
	"turbojet/api"
)

// maxShift is enough: no product of two fixed numbers is beyond 2^62.
const maxShift = 62

// Sat is a number, or the nearest one that is fixed.
func Sat(x int) int { return bound(x, api.Least, api.Most) }

// Add is the sum of fixed numbers, saturated.
func Add(a, b int) int { return Sat(Sat(a) + Sat(b)) }

// Sub is the difference of fixed numbers, saturated.
func Sub(a, b int) int { return Sat(Sat(a) - Sat(b)) }

// Mul is the product of fixed numbers, by 2^shift. It shifts, since a division would round up what is below 0.
func Mul(a, b int, shift int) int {
	product := Sat(a) * Sat(b)
	return Sat(product >> bound(shift, 0, maxShift))
}

// Div is the quotient of fixed numbers. It is saturated for the sake of Least by -1, the one quotient beyond Most.
func Div(a, b int) (int, api.Errno) {
	a, b = Sat(a), Sat(b)
	if b == 0 {
		return 0, api.ErrZero
	}
	return Sat(a / b), api.OK
}

// Clamp is a number, or the nearer end; low, if the ends are the wrong way round.
func Clamp(x, low, high int) int { return bound(Sat(x), Sat(low), Sat(high)) }

// Slew goes from one number to another one, by so much at most. Sub would not tell the way, since two fixed numbers may be further apart than Most.
func Slew(from, to, by int) int {
	from, to, by = Sat(from), Sat(to), bound(by, 0, api.Most)
	way := to - from
	if way > by {
		return Add(from, by)
	}
	if way < -by {
		return Sub(from, by)
	}
	return to
}

// Sum adds all, one behind the other.
func Sum(l ...int) int {
	total := 0
	for _, x := range l {
		total = Add(total, x)
	}
	return total
}

// bound takes any numbers, so that Sat and Clamp share its one switch.
func bound(x, low, high int) int {
	switch {
	case high < low:
		fallthrough
	case x < low:
		return low
	case x > high:
		return high
	}
	return x
}
