package fraction_test

import (
	"math"
	"math/big"
	"slices"
	"strings"
	"testing"

	"anceps/api"
	"anceps/fraction"
)

func digits(l ...int) api.Natural { return api.Natural{Digits: l} }

// fromBig takes the number apart itself, so that the tests do not need Of or New.
func fromBig(x *big.Int) api.Natural {
	var a api.Natural
	rest, digit, base := new(big.Int).Set(x), new(big.Int), big.NewInt(10000)
	for rest.Sign() > 0 {
		rest.DivMod(rest, base, digit)
		a.Digits = append(a.Digits, int(digit.Int64()))
	}
	return a
}

func power(n int64) *big.Int { return new(big.Int).Exp(big.NewInt(10), big.NewInt(n), nil) }

func plus(x *big.Int, n int64) *big.Int { return new(big.Int).Add(x, big.NewInt(n)) }

func times(x, y *big.Int) *big.Int { return new(big.Int).Mul(x, y) }

func whole(x *big.Int) *big.Rat { return new(big.Rat).SetInt(x) }

func over(x, y *big.Int) *big.Rat { return new(big.Rat).SetFrac(x, y) }

func minus(r *big.Rat) *big.Rat { return new(big.Rat).Neg(r) }

var (
	one     = big.NewInt(1)
	tooMany = power(800) // the least number with more than 200 digits
	most    = plus(tooMany, -1)
	half    = times(big.NewInt(5), power(799)) // of tooMany
)

// fromRat returns the valid fraction with a value.
func fromRat(r *big.Rat) api.Fraction {
	return api.Fraction{Negative: r.Sign() < 0, Num: fromBig(new(big.Int).Abs(r.Num())), Den: fromBig(r.Denom())}
}

func of(num, den int64) api.Fraction { return fromRat(big.NewRat(num, den)) }

func equal(f, g api.Fraction) bool {
	return f.Negative == g.Negative && slices.Equal(f.Num.Digits, g.Num.Digits) && slices.Equal(f.Den.Digits, g.Den.Digits)
}

// isNothing reports whether a fraction is a zero value, as with an error.
func isNothing(f api.Fraction) bool { return equal(f, api.Fraction{}) }

// fibonacci returns two neighbours in Fibonacci's sequence, the greatest ones that are valid: their quotient
// has the longest continued fraction.
func fibonacci() (*big.Int, *big.Int) {
	a, b := big.NewInt(1), big.NewInt(2)
	for next := new(big.Int).Add(a, b); next.Cmp(tooMany) < 0; next = new(big.Int).Add(a, b) {
		a, b = b, next
	}
	return a, b
}

// samples returns fractions of all sizes, with both signs.
func samples() []*big.Rat {
	var l []*big.Rat
	for _, c := range [][2]int64{
		{1, 1}, {2, 1}, {1, 2}, {1, 3}, {2, 3}, {5, 6}, {3, 4}, {1, 8}, {7, 12}, {35, 36}, {1, 1000}, {9999, 1}, {10000, 1},
		{9999, 10000}, {10001, 10000}, {123456789, 1000000007}, {1000000000000000, 999999999999999},
	} {
		l = append(l, big.NewRat(c[0], c[1]))
	}
	big200, big400 := power(200), power(400)
	l = append(l, whole(big200), over(plus(big200, -1), big200), over(one, plus(big200, 1)),
		whole(plus(big400, -1)), over(one, plus(big400, -1)), whole(big400), over(one, big400), whole(plus(big400, 1)),
		over(plus(big400, -1), plus(big400, 1)), over(power(399), plus(big400, -3)), over(big.NewInt(7), power(399)),
		whole(most), over(one, most), over(plus(most, -1), most), over(most, plus(most, -1)), over(plus(most, -2), most),
		whole(plus(half, -1)), over(one, plus(half, -1)), whole(half), over(one, half))
	for _, r := range l {
		l = append(l, minus(r))
	}
	return append(l, new(big.Rat))
}

// invalid returns fractions that are not valid.
func invalid() []api.Fraction {
	long := digits(slices.Repeat([]int{1}, 201)...)
	return []api.Fraction{
		{}, {Negative: true}, {Num: digits(1)}, {Negative: true, Num: digits(1)},
		{Negative: true, Den: digits(1)}, {Den: digits(2)}, {Negative: true, Den: digits(2)}, {Den: fromBig(most)},
		{Num: digits(2), Den: digits(4)}, {Negative: true, Num: digits(2), Den: digits(4)}, {Num: digits(6), Den: digits(3)},
		{Num: digits(7), Den: digits(7)}, {Num: digits(0, 1), Den: digits(0, 0, 1)}, {Num: fromBig(most), Den: fromBig(most)},
		{Num: digits(0), Den: digits(1)}, {Num: digits(1), Den: digits(0)}, {Num: digits(1), Den: digits(1, 0)},
		{Num: digits(1, 0), Den: digits(1)}, {Num: digits(-1), Den: digits(1)}, {Num: digits(1), Den: digits(-1)},
		{Num: digits(10000), Den: digits(1)}, {Num: digits(1), Den: digits(10001)}, {Num: digits(0), Den: digits(0)},
		{Num: long, Den: digits(1)}, {Num: digits(1), Den: long}, {Num: long, Den: long},
		{Num: digits(math.MaxInt), Den: digits(math.MinInt)}, {Num: digits(slices.Repeat([]int{9999}, 100000)...), Den: digits(1)},
	}
}

// The examples of the chapter.
func TestExamples(t *testing.T) {
	if f, e := fraction.Of(6, -4); !equal(f, api.Fraction{Negative: true, Num: digits(3), Den: digits(2)}) || e != api.OK {
		t.Errorf("Of: %v, %d", f, e)
	}
	if f, e := fraction.Add(of(1, 2), of(1, 3)); !equal(f, of(5, 6)) || e != api.OK {
		t.Errorf("Add: %v, %d", f, e)
	}
	for i, c := range []struct {
		f      api.Fraction
		digits int
		want   string
	}{{of(-2, 3), 3, "-0.667"}, {of(1, 8), 2, "0.13"}, {of(-1, 1000), 2, "0.00"}} {
		if s, e := fraction.Decimal(c.f, c.digits); s != c.want || e != api.OK {
			t.Errorf("Decimal, row %d: %q, %d", i, s, e)
		}
	}
	for _, s := range []string{"2/4", "3/1", "-0"} {
		if f, e := fraction.Parse(s); !isNothing(f) || e != api.ErrSyntax {
			t.Errorf("%q: %v, %d", s, f, e)
		}
	}
}

// P3.1
func TestOf(t *testing.T) {
	const limit = 1000000000000000
	for i, c := range []struct {
		num, den int
		want     api.Fraction
		e        api.Errno
	}{
		{0, 1, api.Fraction{Den: digits(1)}, api.OK},
		{0, -7, api.Fraction{Den: digits(1)}, api.OK},
		{3, 1, api.Fraction{Num: digits(3), Den: digits(1)}, api.OK},
		{-3, -1, api.Fraction{Num: digits(3), Den: digits(1)}, api.OK},
		{10000, 30000, api.Fraction{Num: digits(1), Den: digits(3)}, api.OK},
		{limit, 1, api.Fraction{Num: digits(0, 0, 0, 1000), Den: digits(1)}, api.OK},
		{-limit, limit, api.Fraction{Negative: true, Num: digits(1), Den: digits(1)}, api.OK},
		{limit, -limit, api.Fraction{Negative: true, Num: digits(1), Den: digits(1)}, api.OK},
		{1, -limit, api.Fraction{Negative: true, Num: digits(1), Den: digits(0, 0, 0, 1000)}, api.OK},
		{limit + 1, 1, api.Fraction{}, api.ErrTooLarge},
		{-limit - 1, 1, api.Fraction{}, api.ErrTooLarge},
		{1, limit + 1, api.Fraction{}, api.ErrTooLarge},
		{1, -limit - 1, api.Fraction{}, api.ErrTooLarge},
		{0, limit + 1, api.Fraction{}, api.ErrTooLarge},
		{math.MinInt, math.MinInt, api.Fraction{}, api.ErrTooLarge},
		{math.MaxInt, math.MaxInt, api.Fraction{}, api.ErrTooLarge},
		{0, 0, api.Fraction{}, api.ErrRange},
		{1, 0, api.Fraction{}, api.ErrRange},
		{-1, 0, api.Fraction{}, api.ErrRange},
		{limit + 1, 0, api.Fraction{}, api.ErrRange},
		{math.MinInt, 0, api.Fraction{}, api.ErrRange},
	} {
		if f, e := fraction.Of(c.num, c.den); !equal(f, c.want) || e != c.e {
			t.Errorf("row %d: %v, %d", i, f, e)
		}
	}
	for num := -40; num <= 40; num++ {
		for den := -40; den <= 40; den++ {
			if den == 0 {
				continue
			}
			if f, e := fraction.Of(num, den); !equal(f, of(int64(num), int64(den))) || e != api.OK {
				t.Errorf("%d, %d: %v, %d", num, den, f, e)
			}
		}
	}
}

// P3.1
func TestNew(t *testing.T) {
	numbers := []*big.Int{new(big.Int), one, big.NewInt(12), big.NewInt(18), power(15), power(400), plus(most, -9), half, most}
	for _, x := range numbers {
		for _, y := range numbers {
			f, e := fraction.New(fromBig(x), fromBig(y))
			if y.Sign() == 0 {
				if !isNothing(f) || e != api.ErrRange {
					t.Errorf("%s by zero: %v, %d", x, f, e)
				}
			} else if !equal(f, fromRat(over(x, y))) || e != api.OK {
				t.Errorf("%s, %s: %v, %d", x, y, f, e)
			}
		}
	}
	for i, a := range []api.Natural{digits(0), digits(-1), digits(10000), digits(1, 0), digits(slices.Repeat([]int{1}, 201)...)} {
		for _, b := range []api.Natural{{}, digits(1), digits(3, 0), fromBig(most)} {
			if f, e := fraction.New(a, b); !isNothing(f) || e != api.ErrInvalid {
				t.Errorf("row %d: %v, %d", i, f, e)
			}
			if f, e := fraction.New(b, a); !isNothing(f) || e != api.ErrInvalid {
				t.Errorf("row %d: %v, %d", i, f, e)
			}
		}
	}
}

// P3.1
func TestValid(t *testing.T) {
	for _, r := range samples() {
		if !fraction.Valid(fromRat(r)) {
			t.Errorf("%s is valid", r)
		}
	}
	if !fraction.Valid(api.Fraction{Num: digits([]int{}...), Den: digits(1)}) {
		t.Error("zero with an empty list is valid")
	}
	for i, f := range invalid() {
		if fraction.Valid(f) {
			t.Errorf("row %d is not valid", i)
		}
	}
}

type operation func(f, g api.Fraction) (api.Fraction, api.Errno)

// P3.1: ErrInvalid comes before all other errors, and other results are zero.
func TestInvalidArguments(t *testing.T) {
	large := fromRat(over(most, plus(most, -1)))
	valid := []api.Fraction{of(0, 1), of(-2, 3), large}
	for i, f := range invalid() {
		for _, g := range append(valid, invalid()...) {
			for name, op := range map[string]operation{"Add": fraction.Add, "Sub": fraction.Sub, "Mul": fraction.Mul, "Div": fraction.Div} {
				if h, e := op(f, g); !isNothing(h) || e != api.ErrInvalid {
					t.Errorf("%s, row %d: %v, %d", name, i, h, e)
				}
				if h, e := op(g, f); !isNothing(h) || e != api.ErrInvalid {
					t.Errorf("%s, row %d: %v, %d", name, i, h, e)
				}
			}
			if fraction.Cmp(f, g) != 0 || fraction.Cmp(g, f) != 0 {
				t.Errorf("Cmp, row %d: not 0", i)
			}
		}
		for _, l := range [][]api.Fraction{{f}, {f, of(1, 2)}, {of(1, 2), f}, {large, large, f}} {
			if h, e := fraction.Sum(l); !isNothing(h) || e != api.ErrInvalid {
				t.Errorf("Sum, row %d: %v, %d", i, h, e)
			}
		}
		for _, n := range []int{0, 5, 20, -1, 21} {
			if s, e := fraction.Decimal(f, n); s != "" || e != api.ErrInvalid {
				t.Errorf("Decimal, row %d: %q, %d", i, s, e)
			}
		}
		if s, e := fraction.Format(f); s != "" || e != api.ErrInvalid {
			t.Errorf("Format, row %d: %q, %d", i, s, e)
		}
	}
}

// fits reports whether none of the numbers has too many digits.
func fits(l ...*big.Int) bool {
	return !slices.ContainsFunc(l, func(x *big.Int) bool { return x.CmpAbs(tooMany) >= 0 })
}

// expected are the results of the operations, and whether the numbers that the chapter names are small enough.
var expected = map[string]struct {
	f     operation
	value func(f, g *big.Rat) (*big.Rat, bool)
}{
	"Add": {fraction.Add, expectedSum},
	"Sub": {fraction.Sub, func(f, g *big.Rat) (*big.Rat, bool) { return expectedSum(f, minus(g)) }},
	"Mul": {fraction.Mul, func(f, g *big.Rat) (*big.Rat, bool) {
		return new(big.Rat).Mul(f, g), fits(times(f.Num(), g.Num()), times(f.Denom(), g.Denom()))
	}},
	"Div": {fraction.Div, func(f, g *big.Rat) (*big.Rat, bool) {
		return new(big.Rat).Quo(f, g), fits(times(f.Num(), g.Denom()), times(f.Denom(), g.Num()))
	}},
}

func expectedSum(f, g *big.Rat) (*big.Rat, bool) {
	ps, rq, qs := times(f.Num(), g.Denom()), times(g.Num(), f.Denom()), times(f.Denom(), g.Denom())
	sum := new(big.Int).Add(ps, rq)
	// With different signs this sum is a difference, which is never too large where its parts are not.
	return new(big.Rat).Add(f, g), fits(ps, rq, qs, sum)
}

// P3.1: compared with math/big, for fractions of all sizes and signs.
func TestOperations(t *testing.T) {
	list := samples()
	done, refused := 0, 0
	for name, op := range expected {
		for _, x := range list {
			for _, y := range list {
				h, e := op.f(fromRat(x), fromRat(y))
				if name == "Div" && y.Sign() == 0 {
					if !isNothing(h) || e != api.ErrRange {
						t.Fatalf("%s by zero: %v, %d", x, h, e)
					}
					continue
				}
				want, ok := op.value(x, y)
				if ok {
					done++
					if !equal(h, fromRat(want)) || e != api.OK {
						t.Fatalf("%s of %s and %s: %v, %d", name, x, y, h, e)
					}
				} else {
					refused++
					if !isNothing(h) || e != api.ErrTooLarge {
						t.Fatalf("%s of %s and %s: %v, %d, but it is too large", name, x, y, h, e)
					}
				}
			}
		}
	}
	if done < 5000 || refused < 5000 {
		t.Errorf("only %d done and %d refused", done, refused)
	}
}

// P3.1: numbers of just 200 digits, and just more, before anything is reduced to lowest terms.
func TestTooLarge(t *testing.T) {
	top, root := whole(most), whole(power(400))
	for i, c := range []struct {
		op   operation
		f, g *big.Rat
		want *big.Rat // nil if it is too large
	}{
		{fraction.Add, top, new(big.Rat), top},
		{fraction.Add, top, big.NewRat(1, 1), nil},
		{fraction.Add, big.NewRat(-1, 1), minus(top), nil},
		{fraction.Add, top, big.NewRat(-1, 1), whole(plus(most, -1))},
		{fraction.Add, whole(plus(most, -1)), big.NewRat(1, 1), top},
		{fraction.Add, top, minus(top), new(big.Rat)},
		{fraction.Add, over(one, power(400)), over(one, power(399)), over(big.NewInt(11), power(400))},
		{fraction.Add, over(one, power(400)), over(one, power(400)), nil},
		{fraction.Add, over(one, power(400)), over(big.NewInt(-1), power(400)), nil},
		{fraction.Add, over(one, plus(half, 1)), new(big.Rat), over(one, plus(half, 1))},
		{fraction.Add, over(one, plus(half, 1)), big.NewRat(1, 2), nil},
		{fraction.Add, root, over(one, plus(power(400), 1)), nil},
		{fraction.Add, over(one, plus(power(400), 1)), root, nil},
		{fraction.Sub, top, big.NewRat(1, 1), whole(plus(most, -1))},
		{fraction.Sub, top, big.NewRat(-1, 1), nil},
		{fraction.Sub, minus(top), big.NewRat(1, 1), nil},
		{fraction.Sub, minus(top), big.NewRat(-1, 1), minus(whole(plus(most, -1)))},
		{fraction.Sub, big.NewRat(1, 1), top, minus(whole(plus(most, -1)))},
		{fraction.Sub, new(big.Rat), top, minus(top)},
		{fraction.Sub, minus(top), new(big.Rat), minus(top)},
		{fraction.Sub, over(one, power(400)), over(one, power(400)), nil},
		{fraction.Mul, top, new(big.Rat), new(big.Rat)},
		{fraction.Mul, top, big.NewRat(2, 1), nil},
		{fraction.Mul, top, big.NewRat(-1, 3), over(new(big.Int).Neg(most), big.NewInt(3))},
		{fraction.Mul, top, big.NewRat(2, 3), nil},
		{fraction.Mul, over(one, most), big.NewRat(3, 2), nil},
		{fraction.Mul, root, whole(power(399)), whole(power(799))},
		{fraction.Mul, root, root, nil},
		{fraction.Mul, over(power(400), plus(power(400), 1)), over(plus(power(400), 1), power(400)), nil},
		{fraction.Mul, new(big.Rat), over(one, most), new(big.Rat)},
		{fraction.Div, new(big.Rat), top, new(big.Rat)},
		{fraction.Div, top, over(one, big.NewInt(2)), nil},
		{fraction.Div, over(one, most), big.NewRat(2, 1), nil},
		{fraction.Div, top, big.NewRat(-3, 1), over(new(big.Int).Neg(most), big.NewInt(3))},
		{fraction.Div, top, top, whole(one)},
		{fraction.Div, over(one, most), over(one, most), whole(one)},
		{fraction.Div, over(most, plus(most, -1)), over(most, plus(most, -1)), nil},
	} {
		want, e := api.Fraction{}, api.ErrTooLarge
		if c.want != nil {
			want, e = fromRat(c.want), api.OK
		}
		if h, got := c.op(fromRat(c.f), fromRat(c.g)); !equal(h, want) || got != e {
			t.Errorf("row %d: %v, %d", i, h, got)
		}
	}
}

func checkCmp(t *testing.T, list, list2 []*big.Rat) {
	t.Helper()
	for _, x := range list {
		for _, y := range list2 {
			if c := fraction.Cmp(fromRat(x), fromRat(y)); c != x.Cmp(y) {
				t.Errorf("%s, %s: %d", x, y, c)
			}
		}
	}
}

// P3.1: Cmp takes valid fractions of any size.
func TestCmp(t *testing.T) {
	checkCmp(t, samples(), samples())
	small, great := fibonacci()
	var golden, simple, sevenths []*big.Rat
	for _, r := range []*big.Rat{over(small, great), over(great, small), over(plus(small, 1), great), over(small, plus(great, -1))} {
		golden = append(golden, r, minus(r))
	}
	checkCmp(t, golden, append(golden, new(big.Rat), whole(one)))
	for num := int64(-12); num <= 12; num++ {
		for den := int64(1); den <= 12; den++ {
			simple = append(simple, big.NewRat(num, den))
		}
		sevenths = append(sevenths, big.NewRat(num, 7))
	}
	checkCmp(t, simple, sevenths)
}

// P3.1
func TestSum(t *testing.T) {
	top := fromRat(whole(most))
	for i, c := range []struct {
		l    []api.Fraction
		want api.Fraction
		e    api.Errno
	}{
		{nil, of(0, 1), api.OK},
		{[]api.Fraction{}, of(0, 1), api.OK},
		{[]api.Fraction{of(0, 1), of(0, 1)}, of(0, 1), api.OK},
		{[]api.Fraction{of(-2, 3)}, of(-2, 3), api.OK},
		{[]api.Fraction{of(1, 2), of(1, 3), of(1, 6)}, of(1, 1), api.OK},
		{[]api.Fraction{of(1, 2), of(-1, 3), of(-1, 6)}, of(0, 1), api.OK},
		{[]api.Fraction{top}, top, api.OK},
		{[]api.Fraction{top, of(-1, 1), of(1, 1)}, top, api.OK},
		{[]api.Fraction{top, of(1, 1), of(-1, 1)}, api.Fraction{}, api.ErrTooLarge},
		{[]api.Fraction{fromRat(over(one, most)), of(1, 2)}, api.Fraction{}, api.ErrTooLarge},
		{[]api.Fraction{top, of(1, 1), {}}, api.Fraction{}, api.ErrInvalid},
	} {
		if f, e := fraction.Sum(c.l); !equal(f, c.want) || e != c.e {
			t.Errorf("row %d: %v, %d", i, f, e)
		}
	}
	var l []api.Fraction
	for n := range int64(300) {
		l = append(l, of(1, (n+1)*(n+2)))
		if f, e := fraction.Sum(l); !equal(f, of(n+1, n+2)) || e != api.OK {
			t.Fatalf("%d: %v, %d", n, f, e)
		}
	}
}

// P3.1: Sum adds in order, each time with Add.
func TestSumIsAdd(t *testing.T) {
	var all []api.Fraction
	for _, r := range samples() {
		all = append(all, fromRat(r))
	}
	for shift := range all {
		l := append(slices.Clone(all[shift:]), all[:shift]...)
		want, wantE := of(0, 1), api.OK
		for n := 0; n <= 6; n++ {
			if f, e := fraction.Sum(l[:n]); !equal(f, want) || e != wantE {
				t.Fatalf("%d from %d: %v, %d", n, shift, f, e)
			}
			if wantE == api.OK {
				want, wantE = fraction.Add(want, l[n])
			}
		}
	}
}

// P3.1
func TestDecimal(t *testing.T) {
	for i, c := range []struct {
		f      api.Fraction
		digits int
		want   string
		e      api.Errno
	}{
		{of(0, 1), 0, "0", api.OK},
		{of(0, 1), 3, "0.000", api.OK},
		{of(1, 2), 0, "1", api.OK},
		{of(-1, 2), 0, "-1", api.OK},
		{of(499, 1000), 0, "0", api.OK},
		{of(-499, 1000), 0, "0", api.OK},
		{of(3, 2), 0, "2", api.OK},
		{of(5, 2), 0, "3", api.OK},
		{of(-5, 2), 0, "-3", api.OK},
		{of(199, 200), 2, "1.00", api.OK},
		{of(-1999, 200), 2, "-10.00", api.OK},
		{of(1, 200), 2, "0.01", api.OK},
		{of(-1, 200), 2, "-0.01", api.OK},
		{of(-1, 201), 2, "0.00", api.OK},
		{of(1234567, 100), 1, "12345.7", api.OK},
		{of(10000, 1), 4, "10000.0000", api.OK},
		{of(1, 10000), 4, "0.0001", api.OK},
		{of(1, 3), 20, "0." + strings.Repeat("3", 20), api.OK},
		{of(2, 3), 20, "0." + strings.Repeat("6", 19) + "7", api.OK},
		{of(1, 2), -1, "", api.ErrRange},
		{of(1, 2), 21, "", api.ErrRange},
		{of(1, 2), math.MinInt, "", api.ErrRange},
		{of(1, 2), math.MaxInt, "", api.ErrRange},
		{fromRat(whole(most)), 21, "", api.ErrRange},
	} {
		if s, e := fraction.Decimal(c.f, c.digits); s != c.want || e != c.e {
			t.Errorf("row %d: %q, %d", i, s, e)
		}
	}
}

// P3.1: compared with math/big, for fractions of all sizes.
func TestDecimalOfSamples(t *testing.T) {
	done, refused := 0, 0
	for _, r := range samples() {
		for n := range 21 {
			s, e := fraction.Decimal(fromRat(r), n)
			two := big.NewInt(2)
			large := times(times(two, new(big.Int).Abs(r.Num())), power(int64(n)))
			if !fits(large.Add(large, r.Denom()), times(two, r.Denom())) {
				refused++
				if s != "" || e != api.ErrTooLarge {
					t.Fatalf("%s with %d digits: %q, %d", r, n, s, e)
				}
				continue
			}
			done++
			want := r.FloatString(n) // which writes -0.00 as well
			if strings.Trim(want, "-0.") == "" {
				want = strings.TrimPrefix(want, "-")
			}
			if s != want || e != api.OK {
				t.Fatalf("%s with %d digits: %q, not %q, %d", r, n, s, want, e)
			}
		}
	}
	if done < 500 || refused < 100 {
		t.Errorf("only %d done and %d refused", done, refused)
	}
}

// P3.1: the numbers that Decimal names have just 200 digits, or just more.
func TestDecimalTooLarge(t *testing.T) {
	for i, c := range []struct {
		r      *big.Rat
		digits int
		e      api.Errno
	}{
		{whole(plus(half, -1)), 0, api.OK},
		{whole(half), 0, api.ErrTooLarge},
		{whole(plus(half, -1)), 1, api.ErrTooLarge},
		{over(plus(half, -1), big.NewInt(2)), 0, api.ErrTooLarge}, // only by the addition of q
		{whole(plus(times(big.NewInt(5), power(779)), -1)), 20, api.OK},
		{whole(times(big.NewInt(5), power(779))), 20, api.ErrTooLarge},
		{over(one, plus(half, -1)), 0, api.OK},
		{over(one, half), 0, api.ErrTooLarge}, // only by 2q
		{over(one, half), 20, api.ErrTooLarge},
		{over(one, most), 0, api.ErrTooLarge},
	} {
		if s, e := fraction.Decimal(fromRat(c.r), c.digits); e != c.e || (s == "") != (e != api.OK) {
			t.Errorf("row %d: %q, %d", i, s, e)
		}
	}
}

// P3.1
func TestFormat(t *testing.T) {
	for i, c := range []struct {
		f    api.Fraction
		want string
	}{
		{of(0, 1), "0"}, {of(1, 1), "1"}, {of(-1, 1), "-1"}, {of(10000, 1), "10000"}, {of(1, 2), "1/2"}, {of(-3, 2), "-3/2"},
		{of(10001, 10000), "10001/10000"}, {of(-7, 50060007), "-7/50060007"},
		{fromRat(over(plus(most, -1), most)), strings.Repeat("9", 799) + "8/" + strings.Repeat("9", 800)},
	} {
		if s, e := fraction.Format(c.f); s != c.want || e != api.OK {
			t.Errorf("row %d: %q, %d", i, s, e)
		}
	}
	for _, r := range samples() {
		if s, e := fraction.Format(fromRat(r)); s != r.RatString() || e != api.OK {
			t.Errorf("%s: %q, %d", r, s, e)
		}
	}
}

// P3.1
func TestParse(t *testing.T) {
	for i, s := range []string{
		"", "-", "/", "-/", "1/", "/1", "-1/", "-/2", "1//2", "1/2/3", "2/4", "-2/4", "4/2", "3/1", "-3/1", "0/1", "0/2", "1/0", "0/0",
		"-0", "-0/1", "--1", "+1", "1/-2", "-1/-2", "1/+2", "01", "-01", "1/02", "01/2", "00", " 1", "1 ", "1 /2", "1/ 2", "1/2\n", "- 1",
		"1.5", "1e3", "0x1", "1_000", "a", "1/a", "a/2", "\x00", "\xff", "\u00bd", "1\u20442", "7/7", "1/1", "-1/1",
		"1" + strings.Repeat("0", 800), "1/1" + strings.Repeat("0", 800), "-1" + strings.Repeat("0", 800),
		"-1/1" + strings.Repeat("0", 800), strings.Repeat("9", 800) + "/" + strings.Repeat("9", 800),
	} {
		if f, e := fraction.Parse(s); !isNothing(f) || e != api.ErrSyntax {
			t.Errorf("row %d: %v, %d", i, f, e)
		}
	}
	for i, c := range []struct {
		s    string
		want api.Fraction
	}{
		{"0", of(0, 1)}, {"7", of(7, 1)}, {"-7", of(-7, 1)}, {"1/2", of(1, 2)}, {"-3/2", of(-3, 2)}, {"10000/10001", of(10000, 10001)},
		{strings.Repeat("9", 800), fromRat(whole(most))}, {"-1/" + strings.Repeat("9", 800), minusOneOverMost()},
	} {
		if f, e := fraction.Parse(c.s); !equal(f, c.want) || e != api.OK {
			t.Errorf("row %d: %v, %d", i, f, e)
		}
	}
	for num := int64(-30); num <= 30; num++ {
		for den := int64(1); den <= 30; den++ {
			r := big.NewRat(num, den)
			if f, e := fraction.Parse(r.RatString()); !equal(f, fromRat(r)) || e != api.OK {
				t.Errorf("%s: %v, %d", r, f, e)
			}
		}
	}
}

func minusOneOverMost() api.Fraction { return fromRat(minus(over(one, most))) }

// P3.1: every short string of the bytes that texts consist of, and of some others.
func TestParseShortStrings(t *testing.T) {
	found := 0
	list := []string{""}
	for len(list[0]) < 5 {
		var longer []string
		for _, s := range list {
			r, ok := new(big.Rat).SetString(s) // which accepts other layouts as well
			ok = ok && r.RatString() == s
			f, e := fraction.Parse(s)
			if ok {
				found++
				if !equal(f, fromRat(r)) || e != api.OK {
					t.Errorf("%q: %v, %d", s, f, e)
				}
			} else if !isNothing(f) || e != api.ErrSyntax {
				t.Errorf("%q: %v, %d", s, f, e)
			}
			for _, b := range []byte("-/0126+ .") {
				longer = append(longer, s+string(b))
			}
		}
		list = longer
	}
	if found < 200 {
		t.Errorf("only %d texts", found)
	}
}
