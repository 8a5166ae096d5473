package fraction

import (
	"strings"

	"anceps/api"
	"anceps/natural"
)

// The functions of this file take fractions that are valid, so that the functions of package natural that they
// call have one error at most: that a number has too many digits.

func sum(f, g api.Fraction) (api.Fraction, api.Errno) {
	ps, e := natural.Mul(f.Num, g.Den)
	rq, e2 := natural.Mul(g.Num, f.Den)
	qs, e3 := natural.Mul(f.Den, g.Den)
	if e != api.OK || e2 != api.OK || e3 != api.OK {
		return api.Fraction{}, api.ErrTooLarge
	}
	if f.Negative != g.Negative {
		return difference(f.Negative, ps, rq, qs), api.OK
	}
	num, e := natural.Add(ps, rq)
	if e != api.OK {
		return api.Fraction{}, api.ErrTooLarge
	}
	return lowest(f.Negative, num, qs), api.OK
}

// difference returns a - b, divided by den, or the opposite of this.
func difference(negative bool, a, b, den api.Natural) api.Fraction {
	if natural.Cmp(a, b) < 0 {
		a, b, negative = b, a, !negative
	}
	num, _ := natural.Sub(a, b)
	return lowest(negative, num, den)
}

func product(f, g api.Fraction) (api.Fraction, api.Errno) {
	num, e := natural.Mul(f.Num, g.Num)
	den, e2 := natural.Mul(f.Den, g.Den)
	if e != api.OK || e2 != api.OK {
		return api.Fraction{}, api.ErrTooLarge
	}
	return lowest(f.Negative != g.Negative, num, den), api.OK
}

// lowest returns num divided by den, or the opposite of this. The denominator den is not zero.
func lowest(negative bool, num, den api.Natural) api.Fraction {
	divisor, _ := natural.Gcd(num, den)
	p, _, _ := natural.Div(num, divisor)
	q, _, _ := natural.Div(den, divisor)
	return api.Fraction{Negative: negative && !isZero(p), Num: p, Den: q}
}

func opposite(f api.Fraction) api.Fraction {
	return api.Fraction{Negative: !f.Negative && !isZero(f.Num), Num: f.Num, Den: f.Den}
}

// compare compares fractions without their signs. It goes through their continued fractions, because products
// of numerators and denominators can have too many digits.
func compare(f, g api.Fraction) int {
	p, q, r, s := f.Num, f.Den, g.Num, g.Den
	for order := 1; ; order = -order {
		whole, pRest, _ := natural.Div(p, q)
		whole2, rRest, _ := natural.Div(r, s)
		if c := natural.Cmp(whole, whole2); c != 0 {
			return order * c
		}
		if isZero(pRest) || isZero(rRest) {
			return order * natural.Cmp(pRest, rRest)
		}
		// The rests, pRest / q and rRest / s, are in the opposite order of their reciprocals.
		p, q, r, s = q, pRest, s, rRest
	}
}

// rounded returns how many units of the last of so many decimal digits are nearest to a fraction without its
// sign.
func rounded(f api.Fraction, digits int) (api.Natural, api.Errno) {
	twoUnits, _ := natural.Parse("2" + strings.Repeat("0", digits))
	two, _ := natural.Of(2)
	num, e := natural.Mul(f.Num, twoUnits)
	if e != api.OK {
		return api.Natural{}, e
	}
	num, e = natural.Add(num, f.Den)
	if e != api.OK {
		return api.Natural{}, e
	}
	den, e := natural.Mul(f.Den, two)
	if e != api.OK {
		return api.Natural{}, e
	}
	units, _, _ := natural.Div(num, den)
	return units, api.OK
}

func isZero(a api.Natural) bool { return len(a.Digits) == 0 }

func isOne(a api.Natural) bool { return len(a.Digits) == 1 && a.Digits[0] == 1 }
