package natural_test

import (
	"math"
	"math/big"
	"slices"
	"strings"
	"testing"

	"anceps/api"
	"anceps/natural"
)

// chosen returns fewer numbers of all sizes, for laws about three of them.
func chosen() []api.Natural {
	var l []api.Natural
	for _, x := range []*big.Int{
		big.NewInt(0), big.NewInt(1), big.NewInt(2), big.NewInt(9999), big.NewInt(10000), big.NewInt(12345678),
		plus(power(100), -1), written(25, 5000, 9999, 1, 0), power(396), plus(power(400), -1), power(400),
		plus(power(799), 7), plus(most, -1), most,
	} {
		l = append(l, fromBig(x))
	}
	return l
}

type operation func(a, b api.Natural) (api.Natural, api.Errno)

// twice returns g(f(a, b), c), and whether no error occurs.
func twice(f, g operation, a, b, c api.Natural) (api.Natural, bool) {
	first, e := f(a, b)
	if e != api.OK {
		return first, false
	}
	result, e := g(first, c)
	return result, e == api.OK
}

// P2.2: sums and products are commutative and associative, and errors do not depend on the order of two.
func TestCommutativeAndAssociative(t *testing.T) {
	for name, f := range map[string]operation{"Add": natural.Add, "Mul": natural.Mul, "Gcd": natural.Gcd} {
		for _, a := range chosen() {
			for _, b := range chosen() {
				ab, e := f(a, b)
				ba, e2 := f(b, a)
				if !equal(ab, ba) || e != e2 {
					t.Fatalf("%s of %v and %v is not commutative", name, a, b)
				}
				for _, c := range chosen() {
					left, ok := twice(f, f, a, b, c)
					right, ok2 := twice(f, f, b, c, a)
					if ok && ok2 && !equal(left, right) {
						t.Fatalf("%s of %v, %v and %v is not associative", name, a, b, c)
					}
				}
			}
		}
	}
}

// P2.2: products distribute over sums.
func TestDistributive(t *testing.T) {
	compared := 0
	for _, a := range chosen() {
		for _, b := range chosen() {
			for _, c := range chosen() {
				left, ok := twice(natural.Add, natural.Mul, a, b, c)
				ac, e := natural.Mul(a, c)
				bc, e2 := natural.Mul(b, c)
				if !ok || e != api.OK || e2 != api.OK {
					continue
				}
				compared++
				if right, e := natural.Add(ac, bc); !equal(left, right) || e != api.OK {
					t.Fatalf("%v, %v, %v: %v, %v, %d", a, b, c, left, right, e)
				}
			}
		}
	}
	if compared < 500 {
		t.Errorf("only %d compared", compared)
	}
}

// P2.2: what was added can be subtracted again.
func TestSubTakesBackAdd(t *testing.T) {
	for _, a := range chosen() {
		for _, b := range chosen() {
			if back, ok := twice(natural.Add, natural.Sub, a, b, b); ok && !equal(back, a) {
				t.Fatalf("%v, %v: %v", a, b, back)
			}
		}
	}
}

// P2.2: the quotient times the divisor, plus the remainder, is the dividend, and the remainder is less.
func TestDivTakesBackMul(t *testing.T) {
	list := samples()
	for _, x := range list {
		for _, y := range list {
			a, b := fromBig(x), fromBig(y)
			q, r, e := natural.Div(a, b)
			if isZero(b) {
				continue
			}
			back, ok := twice(natural.Mul, natural.Add, q, b, r)
			if e != api.OK || !ok || !equal(back, a) || natural.Cmp(r, b) >= 0 || !natural.Valid(q) || !natural.Valid(r) {
				t.Fatalf("%s by %s: %v, %v, %d", x, y, q, r, e)
			}
		}
	}
}

func divides(a, b api.Natural) bool {
	if isZero(a) {
		return isZero(b)
	}
	_, rest, e := natural.Div(b, a)
	return e == api.OK && isZero(rest)
}

// P2.2: the greatest common divisor divides both, and every number that divides both divides it.
func TestGcd(t *testing.T) {
	var small []api.Natural
	for n := range 41 {
		a, _ := natural.Of(n)
		small = append(small, a)
	}
	for _, a := range small {
		for _, b := range small {
			d, e := natural.Gcd(a, b)
			if e != api.OK || !divides(d, a) || !divides(d, b) {
				t.Fatalf("%v, %v: %v, %d", a, b, d, e)
			}
			for _, c := range small {
				if divides(c, a) && divides(c, b) && !divides(c, d) {
					t.Fatalf("%v, %v: %v, but %v divides both", a, b, d, c)
				}
			}
		}
	}
	for _, a := range chosen() {
		for _, b := range chosen() {
			for _, c := range chosen() {
				ac, e := natural.Mul(a, c)
				bc, e2 := natural.Mul(b, c)
				if e != api.OK || e2 != api.OK {
					continue
				}
				if d, e := natural.Gcd(ac, bc); e != api.OK || !divides(c, d) || !divides(d, ac) || !divides(d, bc) {
					t.Fatalf("%v, %v: %v, %d", ac, bc, d, e)
				}
			}
		}
	}
}

// P2.2: neighbours in Fibonacci's sequence need the most steps, and have no divisor in common.
func TestGcdOfFibonacci(t *testing.T) {
	a, b, e := digits(), digits(1), api.OK
	for n := 0; e == api.OK; n++ {
		if n%100 == 0 {
			checkCoprime(t, a, b)
		}
		var next api.Natural
		next, e = natural.Add(a, b)
		if e == api.OK {
			a, b = b, next
		}
	}
	checkCoprime(t, a, b)
}

func checkCoprime(t *testing.T, a, b api.Natural) {
	t.Helper()
	if d, e := natural.Gcd(a, b); !equal(d, digits(1)) || e != api.OK {
		t.Fatalf("%v, %v: %v, %d", a, b, d, e)
	}
}

// P2.2: Pascal's triangle, and its symmetry.
func TestPascal(t *testing.T) {
	binomial := func(n, k int) api.Natural {
		b, e := natural.Binomial(n, k)
		if e != api.OK {
			t.Fatalf("%d, %d: %d", n, k, e)
		}
		return b
	}
	for n := 400; n >= 0; n -= 1 + n/40 {
		for k := range n + 1 {
			b := binomial(n, k)
			if !equal(b, binomial(n, n-k)) {
				t.Fatalf("%d, %d: not symmetric", n, k)
			}
			if k == 0 || k == n {
				continue
			}
			if s, e := natural.Add(binomial(n-1, k-1), binomial(n-1, k)); !equal(b, s) || e != api.OK {
				t.Fatalf("%d, %d: %v, not %v", n, k, b, s)
			}
		}
	}
}

// P2.2: Parse leads back from the text of a number, and Format from a number to its text.
func TestFormatAndParseAreInverse(t *testing.T) {
	for _, x := range samples() {
		a := fromBig(x)
		s, e := natural.Format(a)
		if back, e2 := natural.Parse(s); e != api.OK || e2 != api.OK || !equal(back, a) {
			t.Fatalf("%s: %v", x, back)
		}
	}
	for _, s := range []string{"0", "1", "10", "1000", "10000", "100000000", "90001000200030004"} {
		for n := range 12 {
			text := strings.TrimLeft(s+strings.Repeat("0", n), "0") + "7"
			a, e := natural.Parse(text)
			if back, e2 := natural.Format(a); e != api.OK || e2 != api.OK || back != text || !natural.Valid(a) {
				t.Fatalf("%s: %q", text, back)
			}
		}
	}
	for n := range 30000 {
		a, _ := natural.Of(n)
		s, e := natural.Format(a)
		if b, e2 := natural.Parse(s); e != api.OK || e2 != api.OK || !equal(a, b) || s != big.NewInt(int64(n)).String() {
			t.Fatalf("%d: %q, %v", n, s, b)
		}
	}
}

// P1: no argument makes a function of this layer panic or change what it was given.
func TestNoPanic(t *testing.T) {
	list := append(invalid(), chosen()...)
	for _, a := range list {
		for _, b := range list {
			keptA, keptB := slices.Clone(a.Digits), slices.Clone(b.Digits)
			natural.Add(a, b)
			natural.Sub(a, b)
			natural.Mul(a, b)
			natural.Div(a, b)
			natural.Cmp(a, b)
			natural.Gcd(a, b)
			if !slices.Equal(a.Digits, keptA) || !slices.Equal(b.Digits, keptB) {
				t.Fatal("an argument was changed")
			}
		}
		natural.Valid(a)
		natural.Format(a)
	}
	numbers := []int{math.MinInt, -10000, -1, 0, 1, 2, 399, 400, 401, 10000, math.MaxInt - 1, math.MaxInt}
	for _, n := range numbers {
		natural.Of(n)
		for _, k := range numbers {
			natural.Binomial(n, k)
		}
	}
	for _, s := range []string{"", "\x00", "\xff", strings.Repeat("9", 1000000), strings.Repeat("\xff", 1000000)} {
		natural.Parse(s)
	}
}

// Results share no memory with arguments, with one another or with later results.
func TestResultsAreNew(t *testing.T) {
	for _, a := range chosen() {
		for _, b := range chosen() {
			keptA, keptB := slices.Clone(a.Digits), slices.Clone(b.Digits)
			// The room behind the digits belongs to the caller as well.
			roomA, roomB := append(slices.Clone(a.Digits), 1, 1, 1), append(slices.Clone(b.Digits), 2, 2, 2)
			a, b := api.Natural{Digits: roomA[:len(keptA)]}, api.Natural{Digits: roomB[:len(keptB)]}
			var results []api.Natural
			for _, f := range []operation{natural.Add, natural.Sub, natural.Mul, natural.Gcd} {
				c, _ := f(a, b)
				results = append(results, c)
			}
			q, r, _ := natural.Div(a, b)
			results = append(results, q, r)
			for i, c := range results {
				fill(c, 100+i)
			}
			for i, c := range results {
				if slices.ContainsFunc(c.Digits, func(d int) bool { return d != 100+i }) {
					t.Fatalf("%v, %v: result %d is shared", keptA, keptB, i)
				}
			}
			if !slices.Equal(roomA, append(keptA, 1, 1, 1)) || !slices.Equal(roomB, append(keptB, 2, 2, 2)) {
				t.Fatalf("%v, %v: an argument is shared", keptA, keptB)
			}
		}
	}
}

// fill overwrites a result, and the room behind it.
func fill(a api.Natural, with int) {
	all := a.Digits[:cap(a.Digits)]
	for i := range all {
		all[i] = with
	}
}
