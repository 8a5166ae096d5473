package natural_test

import (
	"math"
	"math/big"
	"slices"
	"strings"
	"testing"

	"anceps/api"
	"anceps/natural"
)

func digits(l ...int) api.Natural { return api.Natural{Digits: l} }

func equal(a, b api.Natural) bool { return slices.Equal(a.Digits, b.Digits) }

func isZero(a api.Natural) bool { return len(a.Digits) == 0 }

// fromBig takes the number apart itself, so that the tests do not need Parse or Of.
func fromBig(x *big.Int) api.Natural {
	var a api.Natural
	rest, digit, base := new(big.Int).Set(x), new(big.Int), big.NewInt(10000)
	for rest.Sign() > 0 {
		rest.DivMod(rest, base, digit)
		a.Digits = append(a.Digits, int(digit.Int64()))
	}
	return a
}

func power(n int64) *big.Int { return new(big.Int).Exp(big.NewInt(10), big.NewInt(n), nil) }

func plus(x *big.Int, n int64) *big.Int { return new(big.Int).Add(x, big.NewInt(n)) }

var (
	tooMany = power(800) // the least number with more than 200 digits
	most    = plus(tooMany, -1)
)

// written returns the number whose digits, the greatest one first, are repeated so often.
func written(times int, l ...int) *big.Int {
	x := new(big.Int)
	for range times {
		for _, d := range l {
			x.Add(x.Mul(x, big.NewInt(10000)), big.NewInt(int64(d)))
		}
	}
	return x
}

// samples returns numbers of all sizes: round ones and their neighbours, ones with digits at which estimates
// of quotients are too large, and mixed ones.
func samples() []*big.Int {
	var l []*big.Int
	for _, n := range []int64{0, 1, 2, 3, 4, 7, 12, 18, 4999, 5000, 5001, 9998, 12345678, 49999999, 99989999} {
		l = append(l, big.NewInt(n))
	}
	for _, n := range []int64{1, 4, 8, 12, 396, 400, 404, 796, 799, 800} {
		l = append(l, plus(power(n), -1))
		if n < 800 {
			l = append(l, power(n), plus(power(n), 1))
		}
	}
	for _, times := range []int{1, 2, 50, 66} {
		l = append(l, written(times, 5000, 9999, 9999), written(times, 9999, 0, 1), written(times, 4999, 0, 9999),
			written(times, 1, 9999, 0), written(times, 1, 0, 9998), written(times, 5000, 0, 0))
	}
	x := uint64(1)
	for size := 1; size <= 200; size += 1 + size/3 {
		mixed := make([]int, size)
		for i := range mixed {
			x = x*6364136223846793005 + 1442695040888963407
			mixed[i] = 1 + int(x>>33%9999)
		}
		l = append(l, written(1, mixed...))
	}
	return l
}

// invalid returns numbers that are not valid.
func invalid() []api.Natural {
	return []api.Natural{
		digits(0), digits(-1), digits(10000), digits(1, 0), digits(0, 0), digits(-1, 1), digits(10000, 1), digits(1, -1),
		digits(1, 2, 10000, 4), digits(math.MaxInt), digits(math.MinInt), digits(1, math.MaxInt, 1), digits(1, math.MinInt, 1),
		{Digits: make([]int, 200)}, {Digits: make([]int, 201)}, {Digits: slices.Repeat([]int{1}, 201)},
		{Digits: slices.Repeat([]int{9999}, 100000)}, {Digits: append(make([]int, 200), 1)},
	}
}

// P2.1
func TestOf(t *testing.T) {
	for i, c := range []struct {
		n    int
		want api.Natural
		e    api.Errno
	}{
		{0, digits(), api.OK},
		{1, digits(1), api.OK},
		{9999, digits(9999), api.OK},
		{10000, digits(0, 1), api.OK},
		{10001, digits(1, 1), api.OK},
		{12345678, digits(5678, 1234), api.OK},
		{100000000, digits(0, 0, 1), api.OK},
		{math.MaxInt32, digits(3647, 4748, 21), api.OK},
		{math.MaxInt, fromBig(big.NewInt(math.MaxInt)), api.OK},
		{-1, digits(), api.ErrRange},
		{-10000, digits(), api.ErrRange},
		{math.MinInt, digits(), api.ErrRange},
	} {
		if a, e := natural.Of(c.n); !equal(a, c.want) || e != c.e {
			t.Errorf("row %d: %v, %d", i, a, e)
		}
	}
}

// P2.1
func TestValid(t *testing.T) {
	for i, a := range []api.Natural{
		{}, {Digits: []int{}}, digits(1), digits(9999), digits(0, 1), digits(0, 0, 0, 9999), digits(9999, 1),
		{Digits: append(make([]int, 199), 1)}, {Digits: slices.Repeat([]int{9999}, 200)},
	} {
		if !natural.Valid(a) {
			t.Errorf("row %d is valid", i)
		}
	}
	for i, a := range invalid() {
		if natural.Valid(a) {
			t.Errorf("row %d is not valid", i)
		}
	}
	for _, x := range samples() {
		if !natural.Valid(fromBig(x)) {
			t.Errorf("%s is valid", x)
		}
	}
}

// P2.1: ErrInvalid comes before all other errors, and other results are zero.
func TestInvalidArguments(t *testing.T) {
	others := append(invalid(), digits(), digits(1), fromBig(most))
	for i, a := range invalid() {
		for j, b := range others {
			for _, p := range [][2]api.Natural{{a, b}, {b, a}} {
				for _, f := range []func(a, b api.Natural) (api.Natural, api.Errno){natural.Add, natural.Sub, natural.Mul, natural.Gcd} {
					if c, e := f(p[0], p[1]); !isZero(c) || e != api.ErrInvalid {
						t.Errorf("rows %d, %d: %v, %d", i, j, c, e)
					}
				}
				if q, r, e := natural.Div(p[0], p[1]); !isZero(q) || !isZero(r) || e != api.ErrInvalid {
					t.Errorf("Div, rows %d, %d: %v, %v, %d", i, j, q, r, e)
				}
			}
		}
		if s, e := natural.Format(a); s != "" || e != api.ErrInvalid {
			t.Errorf("Format, row %d: %q, %d", i, s, e)
		}
	}
}

// check compares a result with that of package big: an error if there is none, or if it is too large.
func check(t *testing.T, name string, x, y, want *big.Int, none api.Errno, a api.Natural, e api.Errno) {
	t.Helper()
	wantE := api.OK
	switch {
	case want == nil:
		want, wantE = new(big.Int), none
	case want.Cmp(tooMany) >= 0:
		want, wantE = new(big.Int), api.ErrTooLarge
	}
	if !equal(a, fromBig(want)) || e != wantE {
		t.Fatalf("%s of %s and %s: %v, %d", name, x, y, a, e)
	}
}

// P2.1: all operations agree with package big.
func TestOperations(t *testing.T) {
	list := samples()
	for _, x := range list {
		for _, y := range list {
			a, b := fromBig(x), fromBig(y)
			c, e := natural.Add(a, b)
			check(t, "Add", x, y, new(big.Int).Add(x, y), api.OK, c, e)
			c, e = natural.Mul(a, b)
			check(t, "Mul", x, y, new(big.Int).Mul(x, y), api.OK, c, e)
			c, e = natural.Gcd(a, b)
			check(t, "Gcd", x, y, new(big.Int).GCD(nil, nil, x, y), api.OK, c, e)
			less := new(big.Int).Sub(x, y)
			if less.Sign() < 0 {
				less = nil
			}
			c, e = natural.Sub(a, b)
			check(t, "Sub", x, y, less, api.ErrRange, c, e)
			var quotient, rest *big.Int
			if y.Sign() > 0 {
				quotient, rest = new(big.Int).QuoRem(x, y, new(big.Int))
			}
			c, d, e := natural.Div(a, b)
			check(t, "Div (quotient)", x, y, quotient, api.ErrRange, c, e)
			check(t, "Div (rest)", x, y, rest, api.ErrRange, d, e)
			if order := natural.Cmp(a, b); order != x.Cmp(y) {
				t.Fatalf("Cmp of %s and %s: %d", x, y, order)
			}
		}
	}
}

// P2.1: quotients whose digits are all the greatest or the least ones, with rests just below the divisor.
func TestDivNearMultiples(t *testing.T) {
	for _, y := range samples() {
		for _, q := range samples() {
			product := new(big.Int).Mul(y, q)
			for _, x := range []*big.Int{plus(product, -1), product, plus(product, 1), plus(new(big.Int).Add(product, y), -1)} {
				if x.Sign() < 0 || y.Sign() == 0 || x.Cmp(tooMany) >= 0 {
					continue
				}
				quotient, rest := new(big.Int).QuoRem(x, y, new(big.Int))
				if a, b, e := natural.Div(fromBig(x), fromBig(y)); !equal(a, fromBig(quotient)) || !equal(b, fromBig(rest)) || e != api.OK {
					t.Fatalf("%s by %s: %v, %v, %d", x, y, a, b, e)
				}
			}
		}
	}
}

// P2.1: all divisions of three digits by two, with digits at the ends and in the middle of their range.
func TestDivDigits(t *testing.T) {
	list := []int64{0, 1, 2, 4999, 5000, 5001, 9998, 9999}
	base := int64(10000)
	for _, y1 := range list {
		for _, y0 := range list {
			for _, x2 := range list {
				for _, x1 := range list {
					for _, x0 := range list {
						x, y := (x2*base+x1)*base+x0, y1*base+y0
						if y == 0 {
							continue
						}
						a, b, e := natural.Div(fromBig(big.NewInt(x)), fromBig(big.NewInt(y)))
						if !equal(a, fromBig(big.NewInt(x/y))) || !equal(b, fromBig(big.NewInt(x%y))) || e != api.OK {
							t.Fatalf("%d by %d: %v, %v, %d", x, y, a, b, e)
						}
					}
				}
			}
		}
	}
}

// P2.1: the examples of the chapter.
func TestExamples(t *testing.T) {
	a := digits(5678, 1234)
	square, e := natural.Mul(a, a)
	if s, _ := natural.Format(square); s != "152415765279684" || e != api.OK {
		t.Errorf("the square is %s, %d", s, e)
	}
	if q, r, e := natural.Div(a, digits(1, 1)); !equal(q, digits(1234)) || !equal(r, digits(4444)) || e != api.OK {
		t.Errorf("Div: %v, %v, %d", q, r, e)
	}
	if d, e := natural.Gcd(digits(12), digits(18)); !equal(d, digits(6)) || e != api.OK {
		t.Errorf("Gcd: %v, %d", d, e)
	}
	if b, e := natural.Binomial(6, 2); !equal(b, digits(15)) || e != api.OK {
		t.Errorf("Binomial: %v, %d", b, e)
	}
	if b, e := natural.Parse("007"); !isZero(b) || e != api.ErrSyntax {
		t.Errorf("Parse: %v, %d", b, e)
	}
}

// P2.1: results of just 200 digits, and just more.
func TestTooLarge(t *testing.T) {
	for i, c := range []struct {
		f    func(a, b api.Natural) (api.Natural, api.Errno)
		a, b *big.Int
		want *big.Int
		e    api.Errno
	}{
		{natural.Add, most, big.NewInt(0), most, api.OK},
		{natural.Add, most, big.NewInt(1), new(big.Int), api.ErrTooLarge},
		{natural.Add, big.NewInt(1), most, new(big.Int), api.ErrTooLarge},
		{natural.Add, plus(most, -1), big.NewInt(1), most, api.OK},
		{natural.Add, most, most, new(big.Int), api.ErrTooLarge},
		{natural.Mul, most, big.NewInt(0), new(big.Int), api.OK},
		{natural.Mul, most, big.NewInt(1), most, api.OK},
		{natural.Mul, most, big.NewInt(2), new(big.Int), api.ErrTooLarge},
		{natural.Mul, most, most, new(big.Int), api.ErrTooLarge},
		{natural.Mul, power(400), power(399), power(799), api.OK},
		{natural.Mul, power(400), power(400), new(big.Int), api.ErrTooLarge},
		{natural.Mul, plus(power(400), -1), plus(power(400), 1), most, api.OK},
	} {
		if a, e := c.f(fromBig(c.a), fromBig(c.b)); !equal(a, fromBig(c.want)) || e != c.e {
			t.Errorf("row %d: %v, %d", i, a, e)
		}
	}
}

// P2.1: the errors of Sub and Div, and zero.
func TestSubAndDivErrors(t *testing.T) {
	for _, a := range []api.Natural{{}, digits(7), fromBig(most)} {
		if d, e := natural.Sub(a, a); !isZero(d) || e != api.OK {
			t.Errorf("Sub: %v, %d", d, e)
		}
		if q, r, e := natural.Div(a, api.Natural{}); !isZero(q) || !isZero(r) || e != api.ErrRange {
			t.Errorf("Div by zero: %v, %v, %d", q, r, e)
		}
		if d, e := natural.Gcd(a, api.Natural{}); !equal(d, a) || e != api.OK {
			t.Errorf("Gcd with zero: %v, %d", d, e)
		}
	}
	if d, e := natural.Sub(digits(), digits(1)); !isZero(d) || e != api.ErrRange {
		t.Errorf("Sub: %v, %d", d, e)
	}
	if d, e := natural.Sub(digits(9999, 1), digits(0, 2)); !isZero(d) || e != api.ErrRange {
		t.Errorf("Sub: %v, %d", d, e)
	}
}

// P2.1: Cmp takes any Digits.
func TestCmp(t *testing.T) {
	for i, c := range []struct {
		a, b api.Natural
		want int
	}{
		{digits(), digits(), 0},
		{digits(), api.Natural{Digits: []int{}}, 0},
		{digits(), digits(1), -1},
		{digits(9999), digits(0, 1), -1},
		{digits(9999, 1), digits(0, 2), -1},
		{digits(1, 2), digits(2, 1), 1},
		{digits(1, 2, 3), digits(2, 2, 3), -1},
		{digits(1, 2, 3), digits(1, 2, 3), 0},
		{digits(), digits(0), -1},
		{digits(9999), digits(0, 0), -1},
		{digits(-5), digits(-4), -1},
		{digits(-5), digits(), 1},
		{digits(0, math.MinInt), digits(0, math.MaxInt), -1},
		{digits(math.MaxInt, 7), digits(math.MinInt, 7), 1},
		{digits(-1, -1), digits(5), 1},
		{api.Natural{Digits: make([]int, 300)}, api.Natural{Digits: make([]int, 301)}, -1},
		{api.Natural{Digits: append([]int{1}, make([]int, 300)...)}, api.Natural{Digits: make([]int, 301)}, 1},
	} {
		if order := natural.Cmp(c.a, c.b); order != c.want {
			t.Errorf("row %d: %d", i, order)
		}
		if order := natural.Cmp(c.b, c.a); order != -c.want {
			t.Errorf("row %d, exchanged: %d", i, order)
		}
	}
}

// P2.1: the numbers of subsets of small sets and of some large ones.
func TestBinomial(t *testing.T) {
	want := new(big.Int)
	for n := 400; n >= 0; n -= 1 + n/40 {
		for k := range n + 1 {
			want.Binomial(int64(n), int64(k))
			if b, e := natural.Binomial(n, k); !equal(b, fromBig(want)) || e != api.OK {
				t.Fatalf("%d, %d: %v, %d", n, k, b, e)
			}
		}
	}
	for _, c := range [][2]int{
		{-1, 0}, {-1, -1}, {0, -1}, {0, 1}, {6, -1}, {6, 7}, {400, 401}, {400, -1}, {401, 0}, {401, 1}, {401, 401}, {401, 402},
		{math.MaxInt, 1}, {math.MaxInt, math.MaxInt}, {math.MinInt, 0}, {math.MinInt, math.MinInt}, {5, math.MinInt}, {5, math.MaxInt},
	} {
		if b, e := natural.Binomial(c[0], c[1]); !isZero(b) || e != api.ErrRange {
			t.Errorf("%d, %d: %v, %d", c[0], c[1], b, e)
		}
	}
}

// P2.1
func TestFormat(t *testing.T) {
	for i, c := range []struct {
		a    api.Natural
		want string
	}{
		{digits(), "0"},
		{digits(7), "7"},
		{digits(9999), "9999"},
		{digits(0, 1), "10000"},
		{digits(1, 2, 3), "300020001"},
		{digits(10, 0, 100), "10000000010"},
		{digits(5678, 1234), "12345678"},
		{fromBig(most), strings.Repeat("9", 800)},
		{fromBig(power(799)), "1" + strings.Repeat("0", 799)},
	} {
		if s, e := natural.Format(c.a); s != c.want || e != api.OK {
			t.Errorf("row %d: %q, %d", i, s, e)
		}
	}
	for _, x := range samples() {
		if s, e := natural.Format(fromBig(x)); s != x.String() || e != api.OK {
			t.Errorf("%s: %q, %d", x, s, e)
		}
	}
}

// P2.1
func TestParse(t *testing.T) {
	long := strings.Repeat("9", 801)
	for i, c := range []struct {
		s    string
		want api.Natural
		e    api.Errno
	}{
		{"0", digits(), api.OK},
		{"7", digits(7), api.OK},
		{"10", digits(10), api.OK},
		{"9999", digits(9999), api.OK},
		{"10000", digits(0, 1), api.OK},
		{"12345678", digits(5678, 1234), api.OK},
		{"300020001", digits(1, 2, 3), api.OK},
		{long[1:], fromBig(most), api.OK},
		{"1" + strings.Repeat("0", 799), fromBig(power(799)), api.OK},
		{long, digits(), api.ErrTooLarge},
		{"1" + strings.Repeat("0", 800), digits(), api.ErrTooLarge},
		{strings.Repeat("1", 100000), digits(), api.ErrTooLarge},
		{"", digits(), api.ErrSyntax},
		{"00", digits(), api.ErrSyntax},
		{"007", digits(), api.ErrSyntax},
		{"0123456789", digits(), api.ErrSyntax},
		{strings.Repeat("0", 801), digits(), api.ErrSyntax},
		{"0" + long, digits(), api.ErrSyntax},
		{long + "x", digits(), api.ErrSyntax},
		{"x" + long, digits(), api.ErrSyntax},
		{"+1", digits(), api.ErrSyntax},
		{"-1", digits(), api.ErrSyntax},
		{"-0", digits(), api.ErrSyntax},
		{" 1", digits(), api.ErrSyntax},
		{"1 ", digits(), api.ErrSyntax},
		{"1\n", digits(), api.ErrSyntax},
		{"1_000", digits(), api.ErrSyntax},
		{"1.0", digits(), api.ErrSyntax},
		{"0x1", digits(), api.ErrSyntax},
		{"1e3", digits(), api.ErrSyntax},
		{"\xd9\xa1", digits(), api.ErrSyntax}, // a digit, but no decimal one
	} {
		if a, e := natural.Parse(c.s); !equal(a, c.want) || e != c.e {
			t.Errorf("row %d: %v, %d", i, a, e)
		}
	}
	for _, x := range samples() {
		if a, e := natural.Parse(x.String()); !equal(a, fromBig(x)) || e != api.OK {
			t.Errorf("%s: %v, %d", x, a, e)
		}
	}
}

// P2.1: every byte, at each place of a text.
func TestParseBytes(t *testing.T) {
	for b := range 256 {
		s := string([]byte{byte(b)})
		for _, c := range []struct {
			text  string
			first byte // the least digit that may stand there
		}{
			{s, '0'}, {s + "1", '1'}, {"1" + s, '0'}, {"12" + s + "45", '0'},
		} {
			want := api.ErrSyntax
			if c.first <= byte(b) && b <= '9' {
				want = api.OK
			}
			if a, e := natural.Parse(c.text); e != want || e != api.OK && !isZero(a) {
				t.Errorf("%q: %v, %d", c.text, a, e)
			}
		}
	}
}
