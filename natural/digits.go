package natural

import "slices"

// The functions of this file compute with lists of digits, the least one first, whatever their length. The lists
// that they return are new ones (but for trim), and end with a digit that is not 0.

const base = 10000

func sum(a, b []int) []int {
	digits := make([]int, max(len(a), len(b))+1)
	copy(digits, a)
	addTimes(digits, b, 1)
	return trim(digits)
}

// difference takes an a that is not less than b.
func difference(a, b []int) []int {
	digits := make([]int, len(a)+1)
	copy(digits, a)
	takeTimes(digits, b, 1)
	return trim(digits)
}

func product(a, b []int) []int {
	digits := make([]int, len(a)+len(b))
	for i, d := range b {
		addTimes(digits[i:i+len(a)+1], a, d)
	}
	return trim(digits)
}

// divide returns the quotient and the remainder by long division. The divisor b is not zero.
func divide(a, b []int) ([]int, []int) {
	places := len(a) - len(b) + 1
	if places <= 0 {
		return nil, slices.Clone(a)
	}
	quotient := make([]int, places)
	rest := make([]int, len(a)+1)
	copy(rest, a)
	for at := places - 1; at >= 0; at-- {
		quotient[at] = divideDigit(rest[at:at+len(b)+1], b)
	}
	return trim(quotient), trim(rest)
}

// divideDigit subtracts the divisor from part as often as possible, and returns how often: less than base
// times. Part has one place more than the divisor.
func divideDigit(part, divisor []int) int {
	last := len(divisor)
	// Two digits of the divisor are at least base, so that the estimate is never too small, and at most 1 too
	// large: then the last place of part is below zero.
	times := int(leading(part, 3) / leading(divisor, 2))
	takeTimes(part, divisor, times)
	if part[last] < 0 {
		addTimes(part, divisor, 1)
		times--
	}
	return times
}

// leading returns the number that the given count of digits at the end make, with zeros for missing ones.
func leading(a []int, count int) int64 {
	n := int64(0)
	for i := len(a) - 1; i >= len(a)-count; i-- {
		n *= base
		if i >= 0 {
			n += int64(a[i])
		}
	}
	return n
}

// addTimes adds b, times a factor, to a in place. It takes an a with more places than b; the last one takes
// the carry, and is not reduced.
func addTimes(a, b []int, times int) {
	last := len(a) - 1
	carry := 0
	for i := range last {
		carry += a[i] + times*digitAt(b, i)
		a[i] = carry % base
		carry /= base
	}
	a[last] += carry
}

// takeTimes subtracts b, times a factor, from a in place. It takes an a with more places than b; the last one
// takes the borrow, and is below zero if a was less than what is subtracted.
func takeTimes(a, b []int, times int) {
	last := len(a) - 1
	borrow := 0
	for i := range last {
		borrow += times * digitAt(b, i)
		a[i] -= borrow % base
		borrow /= base
		if a[i] < 0 {
			a[i] += base
			borrow++
		}
	}
	a[last] -= borrow
}

// digitAt returns a digit of a number, which is 0 behind the last one.
func digitAt(a []int, i int) int {
	if i < len(a) {
		return a[i]
	}
	return 0
}

func trim(a []int) []int {
	for len(a) > 0 && a[len(a)-1] == 0 {
		a = a[:len(a)-1]
	}
	return a
}
