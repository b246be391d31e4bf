// Package wide is layer 1: products, quotients, and fractions, without loss. See shared/doc/01-wide.md.
package wide

import (
	"math/bits"

	"ogive/api"
)

// Times: a product.
func Times(a, b uint64) api.Wide {
	hi, lo := bits.Mul64(a, b)
	return api.Wide{Hi: hi, Lo: lo}
}

// Compare: -1, 0 or 1.
func Compare(a, b api.Wide) int {
	if a == b {
		return 0
	}
	if a.Hi < b.Hi || a.Hi == b.Hi && a.Lo < b.Lo {
		return -1
	}
	return 1
}

// Add: a sum, modulo 2^128; true: it was above the greatest number on the way.
func Add(list ...api.Wide) (api.Wide, bool) {
	var sum api.Wide
	above := false
	for _, a := range list {
		var carry uint64
		sum.Lo, carry = bits.Add64(sum.Lo, a.Lo, 0)
		sum.Hi, carry = bits.Add64(sum.Hi, a.Hi, carry)
		// A later sum may be small again: what was seen once must stay.
		above = above || carry != 0
	}
	return sum, above
}

// Sub: what is left, modulo 2^128; true: it is below 0.
func Sub(a, b api.Wide) (api.Wide, bool) {
	lo, borrow := bits.Sub64(a.Lo, b.Lo, 0)
	hi, borrow := bits.Sub64(a.Hi, b.Hi, borrow)
	return api.Wide{Hi: hi, Lo: lo}, borrow != 0
}

// Over: divided, rounded down, and what is left; false: by 0, or it has more than 64 bits.
func Over(a api.Wide, by uint64) (uint64, uint64, bool) {
	// Div64 panics just where the quotient has no room; by 0 is one of these.
	if a.Hi >= by {
		return 0, 0, false
	}
	whole, left := bits.Div64(a.Hi, a.Lo, by)
	return whole, left, true
}

// Floor: a product divided, rounded down; false: by 0, or it has more than 64 bits.
func Floor(a, b, by uint64) (uint64, bool) {
	whole, _, ok := Over(Times(a, b), by)
	return whole, ok
}

// Ceil: a product divided, rounded up; false: by 0, or it has more than 64 bits.
func Ceil(a, b, by uint64) (uint64, bool) {
	whole, left, ok := Over(Times(a, b), by)
	if left == 0 {
		return whole, ok
	}
	// The greatest number may be Floor's answer, and yet 1 more has no room.
	up, carry := bits.Add64(whole, 1, 0)
	return up, carry == 0
}

// Less: whether one fraction is less than another one; one over 0 is more than all that aren't, and not less than any.
func Less(a, b api.Ratio) bool {
	// By products alone nothing would be less than 0 / 0.
	if a.Den == 0 || b.Den == 0 {
		return a.Den != 0
	}
	return Compare(Times(a.Num, b.Den), Times(b.Num, a.Den)) < 0
}

// Log: the greatest power of two that isn't above a number; -1 and false: of 0.
func Log(a uint64) (int, bool) {
	return bits.Len64(a) - 1, a != 0
}

// Plus: a sum of counts; false: it is above the greatest count on the way.
func Plus(list ...uint64) (uint64, bool) {
	var sum uint64
	for _, a := range list {
		// What has room is asked first, since the sum itself could go round.
		if a > api.MaxCount-sum {
			return 0, false
		}
		sum += a
	}
	return sum, true
}
