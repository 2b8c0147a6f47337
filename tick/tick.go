// Package tick is layer 1: see shared/doc/01-tick.md.
package tick

import (
	"math"

	"doorman/api"
)

// Add answers a sum; what would be too great is the greatest number.
func Add(a, b uint64) uint64 {
	sum := a + b
	// A sum that wrapped round is less than each of its terms; one that didn't is less than none.
	if sum < a {
		return math.MaxUint64
	}
	return sum
}

// Late tells whether something that ends at a time has ended.
func Late(now, until uint64) bool { return until <= now }

// Pass lets time go on.
func Pass(t api.Time, by uint64) api.Time {
	t.Now = Add(t.Now, by)
	return t
}

// Take counts one more write, and answers its number.
func Take(t api.Time) (api.Time, uint64) {
	t.Seq = Add(t.Seq, 1)
	return t, t.Seq
}

// Shut closes.
func Shut(t api.Time) api.Time {
	t.Closed = true
	return t
}
