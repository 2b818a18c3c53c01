package rounding_test

import (
	"math"
	"math/big"
	"slices"
	"testing"

	"spile/api"
	"spile/rounding"
)

const most = api.MaxMass

// rules are all rules, and noRules numbers that are none.
var (
	rules   = []int{api.RoundDown, api.RoundUp, api.RoundHalfUp, api.RoundHalfEven}
	noRules = []int{0, 5, -1, 6, math.MinInt, math.MaxInt}
)

// numbers are numbers from 0 to api.MaxMass, most of them at the edges of something.
var numbers = []int{0, 1, 2, 3, 4, 5, 7, 10, 1<<32 - 1, 1 << 32, 10000000, most/2 - 1, most / 2, most/2 + 1, most - 20000000, most - 10000000, most - 2, most - 1, most}

// outside are numbers beyond both ends of what a dividend may be.
var outside = []int{-most - 1, most + 1, math.MinInt, math.MaxInt}

// definition returns the quotient by a rule as the document defines it: from the neighbours on both sides.
func definition(a *big.Int, b int, rule int) *big.Int {
	divisor := big.NewInt(int64(b))
	down := new(big.Int).Div(a, divisor) // Euclid's division, which goes down for positive divisors
	up := new(big.Int).Neg(new(big.Int).Div(new(big.Int).Neg(a), divisor))
	toDown := new(big.Int).Sub(a, new(big.Int).Mul(down, divisor))
	toUp := new(big.Int).Sub(new(big.Int).Mul(up, divisor), a)
	nearer := toDown.Cmp(toUp)
	switch {
	case rule == api.RoundDown:
		return down
	case rule == api.RoundUp:
		return up
	case nearer < 0:
		return down
	case nearer > 0 || rule == api.RoundHalfUp:
		return up
	case down.Bit(0) == 0:
		return down
	}
	return up
}

// P2.1: the examples of the document, halves of even and odd quotients on both sides of 0, and the greatest numbers.
func TestQuotient(t *testing.T) {
	for _, x := range []struct{ a, b, down, up, halfUp, halfEven int }{
		{-7, 2, -4, -3, -3, -4},
		{5, 2, 2, 3, 3, 2},
		{7, 2, 3, 4, 4, 4},
		{-5, 2, -3, -2, -2, -2},
		{1, 2, 0, 1, 1, 0},
		{-1, 2, -1, 0, 0, 0},
		{3, 2, 1, 2, 2, 2},
		{-3, 2, -2, -1, -1, -2},
		{4, 3, 1, 2, 1, 1},
		{5, 3, 1, 2, 2, 2},
		{-4, 3, -2, -1, -1, -1},
		{-5, 3, -2, -1, -2, -2},
		{6, 3, 2, 2, 2, 2},
		{-6, 3, -2, -2, -2, -2},
		{0, 9, 0, 0, 0, 0},
		{most, 1, most, most, most, most},
		{-most, 1, -most, -most, -most, -most},
		{most, most, 1, 1, 1, 1},
		{-most, most, -1, -1, -1, -1},
		{most - 1, most, 0, 1, 1, 1},
		{1, most, 0, 1, 0, 0},
		{-1, most, -1, 0, 0, 0},
		{most / 2, most, 0, 1, 1, 0},
		{-most / 2, most, -1, 0, 0, 0},
	} {
		for i, want := range []int{x.down, x.up, x.halfUp, x.halfEven} {
			q, rest, e := rounding.Quotient(x.a, x.b, rules[i])
			if q != want || rest != x.a-want*x.b || e != api.OK {
				t.Error(x, rules[i], q, rest, e)
			}
		}
	}
	if q, rest, e := rounding.Quotient(-7, 2, api.RoundDown); q != -4 || rest != 1 || e != api.OK {
		t.Error(q, rest, e)
	}
	if q, rest, e := rounding.Quotient(5, 2, api.RoundUp); q != 3 || rest != -1 || e != api.OK {
		t.Error(q, rest, e)
	}
}

// P2.1: many quotients, against their definition.
func TestQuotientByDefinition(t *testing.T) {
	check := func(a, b int) {
		t.Helper()
		for _, rule := range rules {
			want := int(definition(big.NewInt(int64(a)), b, rule).Int64())
			if q, rest, e := rounding.Quotient(a, b, rule); q != want || rest != a-want*b || e != api.OK {
				t.Fatal(a, b, rule, q, rest, e)
			}
		}
	}
	for a := -60; a <= 60; a++ {
		for b := 1; b <= 14; b++ {
			check(a, b)
		}
	}
	for _, a := range numbers {
		for _, b := range numbers[1:] {
			check(a, b)
			check(-a, b)
		}
	}
}

// P2.4: the rest is less than the divisor, or at most half of it, and rounding keeps the order of numbers.
func TestQuotientProperties(t *testing.T) {
	for b := 1; b <= 12; b++ {
		for _, rule := range rules {
			before := math.MinInt
			for a := -40; a <= 40; a++ {
				q, rest, e := rounding.Quotient(a, b, rule)
				size := max(rest, -rest)
				if e != api.OK || q*b+rest != a || size >= b || q < before {
					t.Fatal(a, b, rule, q, rest, e, before)
				}
				if (rule == api.RoundHalfUp || rule == api.RoundHalfEven) && 2*size > b {
					t.Fatal("not the nearest", a, b, rule, q, rest)
				}
				before = q
			}
			// What is a multiple is not changed.
			if q, rest, e := rounding.Quotient(-17*b, b, rule); q != -17 || rest != 0 || e != api.OK {
				t.Fatal(b, rule, q, rest, e)
			}
		}
	}
}

// P2.1: what is no rule comes before what is out of range.
func TestQuotientAndStepRefuse(t *testing.T) {
	check := func(a, b, rule int, want api.Errno) {
		t.Helper()
		if q, rest, e := rounding.Quotient(a, b, rule); q != 0 || rest != 0 || e != want {
			t.Error("Quotient", a, b, rule, q, rest, e)
		}
		if s, e := rounding.Step(a, b, rule); s != 0 || e != want {
			t.Error("Step", a, b, rule, s, e)
		}
	}
	for _, rule := range noRules {
		check(5, 2, rule, api.ErrArg)
		check(most+1, 2, rule, api.ErrArg)
		check(5, 0, rule, api.ErrArg)
	}
	for _, rule := range rules {
		for _, x := range outside {
			check(x, 2, rule, api.ErrRange)
			check(x, 0, rule, api.ErrRange)
			check(5, x, rule, api.ErrRange)
		}
		for _, b := range []int{0, -1, -2, -most} {
			check(5, b, rule, api.ErrRange)
			check(0, b, rule, api.ErrRange)
		}
	}
}

// P2.1: the example of the document, and products that need 128 bits, against the definition.
func TestProduct(t *testing.T) {
	for _, x := range []struct{ a, b, c, rule, want int }{
		{2, 5, 4, api.RoundHalfEven, 2},
		{2, 5, 4, api.RoundHalfUp, 3},
		{2, 5, 4, api.RoundDown, 2},
		{2, 5, 4, api.RoundUp, 3},
		{2, 7, 4, api.RoundHalfEven, 4},
		{0, 5, 4, api.RoundUp, 0},
		{most, most, most, api.RoundUp, most},
		{1, 1, most, api.RoundUp, 1},
	} {
		if got, e := rounding.Product(x.a, x.b, x.c, x.rule); got != x.want || e != api.OK {
			t.Error(x, got, e)
		}
	}
	for _, a := range numbers {
		for _, b := range numbers {
			for _, c := range numbers[1:] {
				for _, rule := range rules {
					checkProduct(t, a, b, c, rule)
				}
			}
		}
	}
}

func checkProduct(t *testing.T, a, b, c, rule int) {
	t.Helper()
	product := new(big.Int).Mul(big.NewInt(int64(a)), big.NewInt(int64(b)))
	want := definition(product, c, rule)
	got, e := rounding.Product(a, b, c, rule)
	if want.Cmp(big.NewInt(most)) > 0 {
		if got != 0 || e != api.ErrLimit {
			t.Fatal("beyond the limit", a, b, c, rule, got, e)
		}
	} else if int64(got) != want.Int64() || e != api.OK {
		t.Fatal(a, b, c, rule, got, want, e)
	}
}

// P2.1: where the proportion is the limit, the rule decides whether the product is beyond it.
func TestProductAtTheLimit(t *testing.T) {
	for _, x := range []struct {
		a, b, c int
		errors  [4]api.Errno // by rules
	}{
		// A small rest.
		{most - 1, most - 1, most - 2, [4]api.Errno{api.OK, api.ErrLimit, api.OK, api.OK}},
		// A rest of more than half of the divisor.
		{most - 10000000, most - 10000000, most - 20000000, [4]api.Errno{api.OK, api.ErrLimit, api.ErrLimit, api.ErrLimit}},
	} {
		for i, rule := range rules {
			want := most
			if x.errors[i] != api.OK {
				want = 0
			}
			if got, e := rounding.Product(x.a, x.b, x.c, rule); got != want || e != x.errors[i] {
				t.Error(x, rule, got, e)
			}
		}
	}
}

// P2.1: what is no rule comes first, then the errors of layer 1.
func TestProductRefuses(t *testing.T) {
	check := func(a, b, c, rule int, want api.Errno) {
		t.Helper()
		if got, e := rounding.Product(a, b, c, rule); got != 0 || e != want {
			t.Error(a, b, c, rule, got, e)
		}
	}
	for _, rule := range noRules {
		check(2, 5, 4, rule, api.ErrArg)
		check(-1, 5, 0, rule, api.ErrArg)
		check(2, 5, 0, rule, api.ErrArg)
		check(most, most, 1, rule, api.ErrArg)
	}
	for _, rule := range rules {
		for _, x := range append([]int{-1}, outside...) {
			check(x, 5, 4, rule, api.ErrRange)
			check(2, x, 4, rule, api.ErrRange)
			check(2, 5, x, rule, api.ErrRange)
			check(x, 5, 0, rule, api.ErrRange)
		}
		check(2, 5, 0, rule, api.ErrZero)
		check(most, most, 0, rule, api.ErrZero)
		check(most, 2, 1, rule, api.ErrLimit)
		check(most, most, 1, rule, api.ErrLimit)
	}
}

// P2.1: the example of the document, negative numbers, and what is rounded beyond api.MaxMass.
func TestStep(t *testing.T) {
	for _, x := range []struct{ a, step, down, up, halfUp, halfEven int }{
		{17, 5, 15, 20, 15, 15},
		{-17, 5, -20, -15, -15, -15},
		{18, 5, 15, 20, 20, 20},
		{5, 2, 4, 6, 6, 4},
		{-5, 2, -6, -4, -4, -4},
		{0, 5, 0, 0, 0, 0},
		{15, 5, 15, 15, 15, 15},
		{-7, 1, -7, -7, -7, -7},
		{most, most - 1, most - 1, 2 * (most - 1), most - 1, most - 1},
		{-most, most - 1, -2 * (most - 1), -(most - 1), -(most - 1), -(most - 1)},
		{1, most, 0, most, 0, 0},
		{-1, most, -most, 0, 0, 0},
	} {
		for i, want := range []int{x.down, x.up, x.halfUp, x.halfEven} {
			if got, e := rounding.Step(x.a, x.step, rules[i]); got != want || e != api.OK {
				t.Error(x, rules[i], got, e)
			}
		}
	}
}

// P2.2: words and rules belong together, and nothing else has a word or is a rule.
func TestWords(t *testing.T) {
	for i, word := range []string{"down", "up", "half-up", "half-even"} {
		if got := rounding.Word(rules[i]); got != word {
			t.Error(rules[i], got)
		}
		if got := rounding.Rule(word); got != rules[i] {
			t.Error(word, got)
		}
	}
	for _, rule := range noRules {
		if got := rounding.Word(rule); got != "" {
			t.Error(rule, got)
		}
	}
	for _, word := range []string{"", " ", "Down", "UP", "down ", " up", "half", "half-", "half_up", "half-upp", "even", "half-even\x00", "\xff"} {
		if got := rounding.Rule(word); got != 0 {
			t.Errorf("%q %d", word, got)
		}
	}
}

// P2.3: each number is rounded by itself.
func TestTotal(t *testing.T) {
	for _, x := range []struct {
		l           []int
		b           int
		sums, rests [4]int // by rules
	}{
		{[]int{5, 5, 4}, 2, [4]int{6, 8, 8, 6}, [4]int{2, -2, -2, 2}},
		{[]int{7, 1, 3, 6}, 2, [4]int{7, 10, 10, 9}, [4]int{3, -3, -3, -1}},
		{[]int{1, 1, 1}, 3, [4]int{0, 3, 0, 0}, [4]int{3, -6, 3, 3}},
		{nil, 7, [4]int{}, [4]int{}},
		{[]int{}, most, [4]int{}, [4]int{}},
		{[]int{0}, 1, [4]int{}, [4]int{}},
		{[]int{most, most}, 1, [4]int{2 * most, 2 * most, 2 * most, 2 * most}, [4]int{}},
		{[]int{most - 1, 1}, most, [4]int{0, 2, 1, 1}, [4]int{most, -most, 0, 0}},
	} {
		for i, rule := range rules {
			if s, r, e := rounding.Total(x.l, x.b, rule); s != x.sums[i] || r != x.rests[i] || e != api.OK {
				t.Error(x, rule, s, r, e)
			}
		}
	}
}

// P2.3 and P2.4: as many and as great numbers as are allowed; the total times the divisor, plus the rests, is their sum.
func TestTotalOfMany(t *testing.T) {
	l := make([]int, api.MaxItems)
	sum := 0
	for i := range l {
		l[i] = most - i*i*i*977
		sum += l[i]
	}
	before := slices.Clone(l)
	for _, b := range numbers[1:] {
		for _, rule := range rules {
			quotients := 0
			for _, x := range l {
				q, _, _ := rounding.Quotient(x, b, rule)
				quotients += q
			}
			total, rests, e := rounding.Total(l, b, rule)
			if total != quotients || total*b+rests != sum || e != api.OK {
				t.Fatal(b, rule, total, rests, e)
			}
		}
	}
	if !slices.Equal(l, before) {
		t.Fatal("changed", l)
	}
}

// P2.3: what is no rule comes first, then too many numbers, then what is out of range.
func TestTotalRefuses(t *testing.T) {
	check := func(l []int, b, rule int, want api.Errno) {
		t.Helper()
		if s, r, e := rounding.Total(l, b, rule); s != 0 || r != 0 || e != want {
			t.Error(l, b, rule, s, r, e)
		}
	}
	many := make([]int, api.MaxItems+1)
	for _, rule := range noRules {
		check([]int{1}, 2, rule, api.ErrArg)
		check(many, 2, rule, api.ErrArg)
		check([]int{-1}, 0, rule, api.ErrArg)
		check(nil, 1, rule, api.ErrArg)
	}
	for _, rule := range rules {
		check(many, 2, rule, api.ErrTooLarge)
		check(many, 0, rule, api.ErrTooLarge)
		check(slices.Repeat([]int{-1}, api.MaxItems+1), 2, rule, api.ErrTooLarge)
		check(many[1:], 2, rule, api.OK)
		for _, x := range append([]int{-1, -most}, outside...) {
			check([]int{x}, 2, rule, api.ErrRange)
			check([]int{5, x}, 2, rule, api.ErrRange)
			check([]int{x, 5}, 2, rule, api.ErrRange)
			check([]int{5}, x, rule, api.ErrRange)
			check(nil, x, rule, api.ErrRange)
		}
		check(nil, 0, rule, api.ErrRange)
		check([]int{5}, 0, rule, api.ErrRange)
	}
}

// P1: no function panics, for all arguments.
func TestNoPanic(t *testing.T) {
	all := append([]int{-1, 0, 1, 2, 3, 4, 5, most}, outside...)
	for _, rule := range all {
		rounding.Word(rule)
		for _, a := range all {
			rounding.Total(all, a, rule)
			for _, b := range all {
				rounding.Quotient(a, b, rule)
				rounding.Step(a, b, rule)
				rounding.Total([]int{a}, b, rule)
				for _, c := range all {
					rounding.Product(a, b, c, rule)
				}
			}
		}
	}
}
