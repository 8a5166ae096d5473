package fraction_test

import (
	"math"
	"math/big"
	"slices"
	"strings"
	"testing"

	"anceps/api"
	"anceps/fraction"
)

// chosen returns fewer fractions of all sizes, for laws about three of them.
func chosen() []api.Fraction {
	var l []api.Fraction
	for _, r := range []*big.Rat{
		new(big.Rat), big.NewRat(1, 1), big.NewRat(-1, 1), big.NewRat(1, 2), big.NewRat(-2, 3), big.NewRat(5, 6), big.NewRat(-1, 1000),
		big.NewRat(10000, 9999), over(plus(power(100), -1), power(100)), minus(over(one, plus(power(100), 1))), whole(power(250)),
		minus(over(power(399), plus(power(400), -3))), over(plus(most, -1), most), whole(most), over(one, most),
	} {
		l = append(l, fromRat(r))
	}
	return l
}

// twice returns op2(op(f, g), h), and whether no error occurs.
func twice(op, op2 operation, f, g, h api.Fraction) (api.Fraction, bool) {
	first, e := op(f, g)
	if e != api.OK {
		return first, false
	}
	result, e := op2(first, h)
	return result, e == api.OK
}

// P3.2: sums and products are commutative and associative, and errors do not depend on the order of two.
func TestCommutativeAndAssociative(t *testing.T) {
	compared := 0
	for name, op := range map[string]operation{"Add": fraction.Add, "Mul": fraction.Mul} {
		for _, f := range chosen() {
			for _, g := range chosen() {
				fg, e := op(f, g)
				gf, e2 := op(g, f)
				if !equal(fg, gf) || e != e2 {
					t.Fatalf("%s of %v and %v is not commutative", name, f, g)
				}
				for _, h := range chosen() {
					left, ok := twice(op, op, f, g, h)
					right, ok2 := twice(op, op, g, h, f)
					if !ok || !ok2 {
						continue
					}
					compared++
					if !equal(left, right) {
						t.Fatalf("%s of %v, %v and %v is not associative", name, f, g, h)
					}
				}
			}
		}
	}
	if compared < 2000 {
		t.Errorf("only %d compared", compared)
	}
}

// P3.2: products distribute over sums.
func TestDistributive(t *testing.T) {
	compared := 0
	for _, f := range chosen() {
		for _, g := range chosen() {
			for _, h := range chosen() {
				left, ok := twice(fraction.Add, fraction.Mul, f, g, h)
				fh, e := fraction.Mul(f, h)
				gh, e2 := fraction.Mul(g, h)
				if !ok || e != api.OK || e2 != api.OK {
					continue
				}
				right, e := fraction.Add(fh, gh)
				if e != api.OK {
					continue
				}
				compared++
				if !equal(left, right) {
					t.Fatalf("%v, %v, %v: %v, %v", f, g, h, left, right)
				}
			}
		}
	}
	if compared < 500 {
		t.Errorf("only %d compared", compared)
	}
}

// P3.2: what was added can be subtracted again, and what was multiplied divided, unless it is zero.
func TestOperationsAreTakenBack(t *testing.T) {
	compared := 0
	for _, x := range samples() {
		for _, y := range samples() {
			f, g := fromRat(x), fromRat(y)
			for _, ops := range [][2]operation{{fraction.Add, fraction.Sub}, {fraction.Sub, fraction.Add}, {fraction.Mul, fraction.Div}} {
				if back, ok := twice(ops[0], ops[1], f, g, g); ok {
					compared++
					if !equal(back, f) {
						t.Fatalf("%s, %s: %v", x, y, back)
					}
				}
			}
			if back, e := fraction.Mul(f, g); y.Sign() == 0 && e == api.OK {
				if none, e := fraction.Div(back, g); !isNothing(none) || e != api.ErrRange {
					t.Fatalf("%s times zero, by zero: %v, %d", x, none, e)
				}
			}
		}
	}
	if compared < 5000 {
		t.Errorf("only %d compared", compared)
	}
}

// P3.2: Cmp is a total order.
func TestCmpIsTotalOrder(t *testing.T) {
	list := chosen()
	for i, f := range list {
		for j, g := range list {
			c := fraction.Cmp(f, g)
			if c != -fraction.Cmp(g, f) || (c == 0) != equal(f, g) || (c == 0) != (i == j) {
				t.Fatalf("%v, %v: %d", f, g, c)
			}
			for _, h := range list {
				if c <= 0 && fraction.Cmp(g, h) <= 0 && fraction.Cmp(f, h) > 0 {
					t.Fatalf("%v, %v, %v: not transitive", f, g, h)
				}
			}
		}
	}
}

// P3.2: the result of Cmp is the sign of the difference.
func TestCmpIsSignOfDifference(t *testing.T) {
	for _, x := range samples() {
		for _, y := range samples() {
			f, g := fromRat(x), fromRat(y)
			d, e := fraction.Sub(f, g)
			if e != api.OK {
				continue
			}
			sign := 1
			if d.Negative {
				sign = -1
			} else if len(d.Num.Digits) == 0 {
				sign = 0
			}
			if c := fraction.Cmp(f, g); c != sign {
				t.Fatalf("%s, %s: %d, %d", x, y, c, sign)
			}
		}
	}
}

// P3.2: Decimal differs from the value by at most half a unit of its last digit, and from there goes away from
// zero.
func TestDecimalIsNearest(t *testing.T) {
	for num := int64(-45); num <= 45; num++ {
		for den := int64(1); den <= 45; den++ {
			r := big.NewRat(num, den)
			for n := range 4 {
				s, e := fraction.Decimal(fromRat(r), n)
				d, ok := new(big.Rat).SetString(s)
				if e != api.OK || !ok {
					t.Fatalf("%s with %d digits: %q, %d", r, n, s, e)
				}
				halfUnit := over(one, times(big.NewInt(2), power(int64(n))))
				off := new(big.Rat).Sub(d, r)
				far := new(big.Rat).Abs(off).Cmp(halfUnit)
				if far > 0 || far == 0 && off.Sign() != r.Sign() {
					t.Fatalf("%s with %d digits: %q", r, n, s)
				}
			}
		}
	}
}

// P3.2: Parse leads back from the text of a fraction.
func TestParseLeadsBack(t *testing.T) {
	for _, r := range samples() {
		f := fromRat(r)
		s, e := fraction.Format(f)
		if back, e2 := fraction.Parse(s); e != api.OK || e2 != api.OK || !equal(back, f) {
			t.Fatalf("%s: %q, %v", r, s, back)
		}
	}
}

// P3.2: all results are valid.
func TestResultsAreValid(t *testing.T) {
	check := func(f api.Fraction, e api.Errno) {
		t.Helper()
		if e == api.OK && !fraction.Valid(f) || e != api.OK && !isNothing(f) {
			t.Fatalf("%v, %d", f, e)
		}
	}
	for _, f := range chosen() {
		for _, g := range chosen() {
			check(fraction.Add(f, g))
			check(fraction.Sub(f, g))
			check(fraction.Mul(f, g))
			check(fraction.Div(f, g))
			check(fraction.Sum([]api.Fraction{f, g, f}))
			check(fraction.New(f.Num, g.Num))
			check(fraction.New(f.Den, g.Num))
		}
	}
	for num := -9; num <= 9; num++ {
		for den := -9; den <= 9; den++ {
			check(fraction.Of(num, den))
		}
	}
}

func clone(f api.Fraction) api.Fraction {
	f.Num.Digits, f.Den.Digits = slices.Clone(f.Num.Digits), slices.Clone(f.Den.Digits)
	return f
}

// P1: no argument makes a function of this layer panic or change what it was given.
func TestNoPanic(t *testing.T) {
	list := append(invalid(), chosen()...)
	numbers := []int{math.MinInt, -10000, -1, 0, 1, 2, 20, 21, 10000, math.MaxInt - 1, math.MaxInt}
	for _, f := range list {
		for _, g := range list {
			keptF, keptG := clone(f), clone(g)
			fraction.New(f.Num, g.Den)
			fraction.Add(f, g)
			fraction.Sub(f, g)
			fraction.Mul(f, g)
			fraction.Div(f, g)
			fraction.Cmp(f, g)
			fraction.Sum([]api.Fraction{f, g})
			if !equal(f, keptF) || !equal(g, keptG) {
				t.Fatal("an argument was changed")
			}
		}
		fraction.Valid(f)
		fraction.Format(f)
		for _, n := range numbers {
			fraction.Decimal(f, n)
		}
	}
	for _, n := range numbers {
		for _, m := range numbers {
			fraction.Of(n, m)
		}
	}
	for _, s := range []string{"", "\x00", "\xff", strings.Repeat("9", 1000000), strings.Repeat("/", 1000000), strings.Repeat("-", 1000000)} {
		fraction.Parse(s)
	}
}

// roomy returns a fraction with room behind its digits, which belongs to the caller as well.
func roomy(f api.Fraction) (api.Fraction, [][]int) {
	rooms := [][]int{append(slices.Clone(f.Num.Digits), 7, 7, 7), append(slices.Clone(f.Den.Digits), 7, 7, 7)}
	f.Num.Digits, f.Den.Digits = rooms[0][:len(f.Num.Digits)], rooms[1][:len(f.Den.Digits)]
	return f, rooms
}

// Results share no memory with arguments, within themselves or with other results.
func TestResultsAreNew(t *testing.T) {
	for _, x := range chosen() {
		for _, y := range chosen() {
			f, rooms := roomy(x)
			g, rooms2 := roomy(y)
			rooms = append(rooms, rooms2...)
			var kept, parts [][]int
			for _, room := range rooms {
				kept = append(kept, slices.Clone(room))
			}
			add := func(h api.Fraction, _ api.Errno) { parts = append(parts, h.Num.Digits, h.Den.Digits) }
			for _, op := range []operation{fraction.Add, fraction.Sub, fraction.Mul, fraction.Div} {
				add(op(f, g))
			}
			add(fraction.New(f.Num, g.Den))
			add(fraction.New(f.Den, g.Den))
			add(fraction.Sum([]api.Fraction{f}))
			add(fraction.Sum(nil))
			add(fraction.Of(3, 2))
			add(fraction.Parse("3/2"))
			checkApart(t, parts)
			for i, room := range rooms {
				if !slices.Equal(room, kept[i]) {
					t.Fatalf("%v, %v: an argument is shared", x, y)
				}
			}
		}
	}
}

// checkApart overwrites lists, with the room behind them, and finds out whether any two are shared.
func checkApart(t *testing.T, lists [][]int) {
	t.Helper()
	for i, l := range lists {
		all := l[:cap(l)]
		for j := range all {
			all[j] = 100 + i
		}
	}
	for i, l := range lists {
		if slices.ContainsFunc(l[:cap(l)], func(d int) bool { return d != 100+i }) {
			t.Fatalf("list %d is shared", i)
		}
	}
}
