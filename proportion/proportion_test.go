package proportion_test

import (
	"math"
	"math/big"
	"slices"
	"testing"

	"spile/api"
	"spile/proportion"
)

const most = api.MaxMass

// numbers are amounts at the edges of what is allowed, and some between them.
var numbers = []int{0, 1, 2, 3, 5, 7, 64, 1<<32 - 1, 1 << 32, 1<<32 + 1, 99999999999999, 100000000000000, most / 2, most - 2, most - 1, most}

// noAmounts are numbers that no function accepts.
var noAmounts = []int{-1, -most, most + 1, math.MinInt, math.MaxInt}

// chance is a sequence of numbers that looks random and is always the same.
type chance uint64

func (c *chance) below(n int) int {
	*c = *c*6364136223846793005 + 1442695040888963407
	return int(uint64(*c>>16) % uint64(n))
}

// weights returns 1 to api.MaxShares weights up to a limit; some are 0, and some are equal.
func (c *chance) weights(limit int) []int {
	l := make([]int, 1+c.below(api.MaxShares))
	for i := range l {
		switch c.below(4) {
		case 0:
			l[i] = c.below(3)
		default:
			l[i] = c.below(limit)
		}
	}
	l[c.below(len(l))]++
	return l
}

func product(a, b int) *big.Int {
	return new(big.Int).Mul(big.NewInt(int64(a)), big.NewInt(int64(b)))
}

func sum(l []int) int {
	s := 0
	for _, x := range l {
		s += x
	}
	return s
}

// P1.1: the examples of the document, and the greatest products.
func TestOfAndUp(t *testing.T) {
	for _, x := range []struct{ a, b, c, q, r, up int }{
		{7, 5, 4, 8, 3, 9},
		{8, 5, 4, 10, 0, 10},
		{0, 5, 4, 0, 0, 0},
		{1, 1, most, 0, 1, 1},
		{most, most, most, most, 0, most},
		{most, 1, 1, most, 0, most},
		{most, most - 1, most, most - 1, 0, most - 1},
		{most - 1, most - 1, most, most - 2, 1, most - 1},
	} {
		q, r, e := proportion.Of(x.a, x.b, x.c)
		if q != x.q || r != x.r || e != api.OK {
			t.Error("Of", x, q, r, e)
		}
		if up, e := proportion.Up(x.a, x.b, x.c); up != x.up || e != api.OK {
			t.Error("Up", x, up, e)
		}
	}
}

// P1.1: all triples of numbers, against numbers without a limit.
func TestOfAndUpExactly(t *testing.T) {
	for _, a := range numbers {
		for _, b := range numbers {
			for _, c := range numbers[1:] {
				checkProportion(t, a, b, c)
			}
		}
	}
}

func checkProportion(t *testing.T, a, b, c int) {
	t.Helper()
	q, r := new(big.Int).QuoRem(product(a, b), big.NewInt(int64(c)), new(big.Int))
	up := new(big.Int).Set(q)
	if r.Sign() > 0 {
		up.Add(up, big.NewInt(1))
	}
	gotQ, gotR, e := proportion.Of(a, b, c)
	if q.Cmp(big.NewInt(most)) > 0 {
		if gotQ != 0 || gotR != 0 || e != api.ErrLimit {
			t.Fatal("Of beyond the limit", a, b, c, gotQ, gotR, e)
		}
	} else if int64(gotQ) != q.Int64() || int64(gotR) != r.Int64() || e != api.OK {
		t.Fatal("Of", a, b, c, gotQ, gotR, e)
	}
	gotUp, e := proportion.Up(a, b, c)
	if up.Cmp(big.NewInt(most)) > 0 {
		if gotUp != 0 || e != api.ErrLimit {
			t.Fatal("Up beyond the limit", a, b, c, gotUp, e)
		}
	} else if int64(gotUp) != up.Int64() || e != api.OK {
		t.Fatal("Up", a, b, c, gotUp, e)
	}
}

// P1.1: only what is rounded up is beyond the limit.
func TestUpBeyondTheLimit(t *testing.T) {
	q, r, e := proportion.Of(most-1, most-1, most-2)
	if q != most || r != 1 || e != api.OK {
		t.Fatal(q, r, e)
	}
	if up, e := proportion.Up(most-1, most-1, most-2); up != 0 || e != api.ErrLimit {
		t.Fatal(up, e)
	}
}

// P1.1: a number that is no amount comes before a division by zero, and this before the limit.
func TestOfAndUpRefuse(t *testing.T) {
	check := func(a, b, c int, want api.Errno) {
		t.Helper()
		if q, r, e := proportion.Of(a, b, c); q != 0 || r != 0 || e != want {
			t.Error("Of", a, b, c, q, r, e)
		}
		if up, e := proportion.Up(a, b, c); up != 0 || e != want {
			t.Error("Up", a, b, c, up, e)
		}
	}
	for _, x := range noAmounts {
		check(x, 1, 1, api.ErrRange)
		check(1, x, 1, api.ErrRange)
		check(1, 1, x, api.ErrRange)
		check(x, 1, 0, api.ErrRange)
		check(1, x, 0, api.ErrRange)
		check(most, most, x, api.ErrRange)
	}
	check(1, 1, 0, api.ErrZero)
	check(0, 0, 0, api.ErrZero)
	check(most, most, 0, api.ErrZero)
	check(most, 2, 1, api.ErrLimit)
	check(most, most, 1, api.ErrLimit)
	check(most, most, most-1, api.ErrLimit)
}

// P1.1: ratios are compared exactly, also where their products need 128 bits.
func TestCompare(t *testing.T) {
	for _, x := range []struct{ a, b, c, d, want int }{
		{2, 3, 3, 4, -1},
		{3, 4, 2, 3, 1},
		{2, 3, 4, 6, 0},
		{0, 5, 0, 7, 0},
		{most, most, 1, 1, 0},
		{most - 1, most, most - 2, most - 1, 1},
		{most - 2, most - 1, most - 1, most, -1},
		{0, most, 1, most, -1},
		{most, 1, most - 1, 1, 1},
	} {
		if got, e := proportion.Compare(x.a, x.b, x.c, x.d); got != x.want || e != api.OK {
			t.Error(x, got, e)
		}
	}
	for _, a := range numbers {
		for _, b := range numbers[1:] {
			for _, c := range numbers {
				for _, d := range numbers[1:] {
					want := product(a, d).Cmp(product(c, b))
					if got, e := proportion.Compare(a, b, c, d); got != want || e != api.OK {
						t.Fatal(a, b, c, d, got, e)
					}
				}
			}
		}
	}
}

// P1.1: a number that is no amount comes before a division by zero.
func TestCompareRefuses(t *testing.T) {
	check := func(a, b, c, d int, want api.Errno) {
		t.Helper()
		if got, e := proportion.Compare(a, b, c, d); got != 0 || e != want {
			t.Error(a, b, c, d, got, e)
		}
	}
	for _, x := range noAmounts {
		check(x, 1, 2, 1, api.ErrRange)
		check(1, x, 2, 1, api.ErrRange)
		check(1, 1, x, 1, api.ErrRange)
		check(1, 1, 2, x, api.ErrRange)
		check(x, 0, 2, 0, api.ErrRange)
		check(1, 0, 2, x, api.ErrRange)
	}
	check(1, 0, 2, 1, api.ErrZero)
	check(1, 1, 2, 0, api.ErrZero)
	check(0, 0, 0, 0, api.ErrZero)
}

// P1.2: the examples of the document, equal remainders, and the greatest amounts.
func TestDivide(t *testing.T) {
	for _, x := range []struct {
		a             int
		weights, want []int
	}{
		{10, []int{1, 1, 1}, []int{4, 3, 3}},
		{10, []int{2, 0, 5}, []int{3, 0, 7}},
		{11, []int{1, 1, 1}, []int{4, 4, 3}},
		{1, []int{0, 1, 1}, []int{0, 1, 0}},
		{2, []int{1, 2, 1, 2}, []int{0, 1, 0, 1}},
		{3, []int{1, 2, 1, 2}, []int{1, 1, 0, 1}},
		{9, []int{4}, []int{9}},
		{0, []int{4, 1}, []int{0, 0}},
		{most, []int{most}, []int{most}},
		{most, []int{most - 1, 1}, []int{most - 1, 1}},
		{most, []int{1, 1}, []int{most / 2, most / 2}},
		{most - 1, []int{0, most / 2, most / 2}, []int{0, most / 2, most/2 - 1}},
	} {
		if got, e := proportion.Divide(x.a, x.weights); !slices.Equal(got, x.want) || e != api.OK {
			t.Error(x, got, e)
		}
	}
}

// dividedBySorting divides an amount by weights: what is left goes to the first parts in the order of their remainders.
func dividedBySorting(a int, weights []int) []int {
	total := big.NewInt(int64(sum(weights)))
	parts, order := make([]int, len(weights)), make([]int, len(weights))
	remainders := make([]*big.Int, len(weights))
	left := a
	for i, w := range weights {
		q, r := new(big.Int).QuoRem(product(a, w), total, new(big.Int))
		parts[i], remainders[i], order[i] = int(q.Int64()), r, i
		left -= parts[i]
	}
	slices.SortStableFunc(order, func(i, k int) int { return remainders[k].Cmp(remainders[i]) })
	for _, i := range order[:left] {
		parts[i]++
	}
	return parts
}

// P1.2 and P1.3: many divisions, against another way to divide, and with all their properties.
func TestDivideManyTimes(t *testing.T) {
	c := chance(1)
	for _, limit := range []int{2, 10, 1000, most / 70} {
		for range 500 {
			weights := c.weights(limit)
			a := c.below(5 * len(weights))
			if c.below(2) == 0 {
				a = most - c.below(1000)
			}
			parts, e := proportion.Divide(a, weights)
			if want := dividedBySorting(a, weights); !slices.Equal(parts, want) || e != api.OK {
				t.Fatal(a, weights, parts, want, e)
			}
			checkParts(t, a, weights, parts)
		}
	}
}

// checkParts checks that parts sum to their amount, are near their exact shares, and grow with their weights.
func checkParts(t *testing.T, a int, weights, parts []int) {
	t.Helper()
	if sum(parts) != a {
		t.Fatal("sum", a, weights, parts)
	}
	total := sum(weights)
	for i, w := range weights {
		differs := new(big.Int).Sub(product(parts[i], total), product(a, w))
		if differs.CmpAbs(big.NewInt(int64(total))) >= 0 {
			t.Fatal("exact share", a, weights, parts, i)
		}
		if w == 0 && parts[i] != 0 {
			t.Fatal("weight 0", a, weights, parts, i)
		}
		for k, v := range weights {
			if w > v && parts[i] < parts[k] {
				t.Fatal("greater weight", a, weights, parts, i, k)
			}
		}
	}
}

// P1.3: a factor of all weights changes nothing.
func TestDivideByMultiples(t *testing.T) {
	c := chance(2)
	for range 500 {
		weights := c.weights(1000)
		a := c.below(most)
		multiples := make([]int, len(weights))
		factor := 2 + c.below(most/70000)
		for i, w := range weights {
			multiples[i] = w * factor
		}
		parts, _ := proportion.Divide(a, weights)
		if again, e := proportion.Divide(a, multiples); !slices.Equal(parts, again) || e != api.OK {
			t.Fatal(a, weights, factor, parts, again, e)
		}
	}
}

// refusals are amounts and weights with the error of Divide and Draw; where several apply, the first one counts.
func refusals() []refused {
	many := make([]int, api.MaxShares+1)
	ones := slices.Repeat([]int{1}, api.MaxShares+1)
	l := []refused{
		{1, nil, api.ErrEmpty},
		{1, []int{}, api.ErrEmpty},
		{1, many, api.ErrTooLarge},
		{1, ones, api.ErrTooLarge},
		{1, slices.Repeat([]int{-1}, api.MaxShares+1), api.ErrTooLarge},
		{1, []int{most, 1}, api.ErrRange},
		{1, slices.Repeat([]int{most}, api.MaxShares), api.ErrRange},
		{1, []int{2, -1}, api.ErrRange},
		{1, []int{1, -1}, api.ErrRange},
		{1, []int{math.MaxInt, 1}, api.ErrRange},
		{1, []int{math.MaxInt, math.MaxInt, 2}, api.ErrRange},
		{1, []int{math.MinInt, math.MinInt}, api.ErrRange},
		{1, []int{most + 1, -1}, api.ErrRange},
		{0, []int{0}, api.ErrZero},
		{1, []int{0, 0, 0}, api.ErrZero},
		{1, many[:api.MaxShares], api.ErrZero},
	}
	for _, x := range noAmounts {
		l = append(l,
			refused{x, []int{1, 2}, api.ErrRange},
			refused{x, nil, api.ErrRange},
			refused{x, many, api.ErrRange},
			refused{x, []int{0}, api.ErrRange},
			refused{1, []int{1, x}, api.ErrRange},
			refused{1, []int{x, 0}, api.ErrRange})
	}
	return l
}

type refused struct {
	a       int
	weights []int
	want    api.Errno
}

// P1.2: each error of Divide and Draw, and their order.
func TestDivideAndDrawRefuse(t *testing.T) {
	for _, x := range refusals() {
		if parts, e := proportion.Divide(x.a, x.weights); len(parts) != 0 || e != x.want {
			t.Error("Divide", x, parts, e)
		}
		if drawn, stays, e := proportion.Draw(x.weights, x.a); len(drawn) != 0 || len(stays) != 0 || e != x.want {
			t.Error("Draw", x, drawn, stays, e)
		}
	}
}

// P1.2: as many weights, and as great a sum, as are allowed.
func TestDivideByTheMostWeights(t *testing.T) {
	ones := slices.Repeat([]int{1}, api.MaxShares)
	if parts, e := proportion.Divide(api.MaxShares, ones); !slices.Equal(parts, ones) || e != api.OK {
		t.Error(parts, e)
	}
	weights := slices.Repeat([]int{most / api.MaxShares}, api.MaxShares)
	if parts, e := proportion.Divide(most, weights); !slices.Equal(parts, weights) || e != api.OK {
		t.Error(parts, e)
	}
}

// P1.2: the example of the document, nothing, and the whole.
func TestDraw(t *testing.T) {
	for _, x := range []struct {
		parts        []int
		a            int
		drawn, stays []int
	}{
		{[]int{4, 9, 2}, 10, []int{3, 6, 1}, []int{1, 3, 1}},
		{[]int{4, 9, 2}, 15, []int{4, 9, 2}, []int{0, 0, 0}},
		{[]int{4, 9, 2}, 0, []int{0, 0, 0}, []int{4, 9, 2}},
		{[]int{0, 3}, 2, []int{0, 2}, []int{0, 1}},
		{[]int{most}, most, []int{most}, []int{0}},
	} {
		drawn, stays, e := proportion.Draw(x.parts, x.a)
		if !slices.Equal(drawn, x.drawn) || !slices.Equal(stays, x.stays) || e != api.OK {
			t.Error(x, drawn, stays, e)
		}
	}
}

// P1.2: more than there is is not drawn.
func TestDrawTooMuch(t *testing.T) {
	for _, x := range []struct {
		parts []int
		a     int
	}{{[]int{4, 9, 2}, 16}, {[]int{1}, most}, {[]int{most - 1}, most}, {[]int{0, 1}, 2}} {
		if drawn, stays, e := proportion.Draw(x.parts, x.a); len(drawn) != 0 || len(stays) != 0 || e != api.ErrShort {
			t.Error(x, drawn, stays, e)
		}
	}
}

// P1.3: nothing is drawn beyond a part, and what is drawn and what stays sum to it.
func TestDrawManyTimes(t *testing.T) {
	c := chance(3)
	for _, limit := range []int{2, 10, 1000, most / 70} {
		for range 500 {
			parts := c.weights(limit)
			a := c.below(sum(parts) + 1)
			drawn, stays, e := proportion.Draw(parts, a)
			if e != api.OK || !slices.Equal(drawn, dividedBySorting(a, parts)) || len(stays) != len(parts) {
				t.Fatal(parts, a, drawn, stays, e)
			}
			for i, p := range parts {
				if drawn[i] < 0 || stays[i] < 0 || drawn[i]+stays[i] != p {
					t.Fatal(parts, a, drawn, stays, i)
				}
			}
		}
	}
}

// P1.2: what is reduced is the same ratio in lowest terms.
func TestReduce(t *testing.T) {
	for _, x := range []struct{ a, b, c, d int }{
		{84, 36, 7, 3},
		{36, 84, 3, 7},
		{7, 3, 7, 3},
		{0, 1, 0, 1},
		{0, most, 0, 1},
		{most, most, 1, 1},
		{most, 1, most, 1},
		{1, most, 1, most},
		{most, most - 1, most, most - 1},
		{most, 120000, 1 << 30, 1},
		// The longest way of Euclid's algorithm: neighbours among Fibonacci's numbers.
		{117669030460994, 72723460248141, 117669030460994, 72723460248141},
		{2 * 44945570212853, 2 * 27777890035288, 44945570212853, 27777890035288},
	} {
		if c, d, e := proportion.Reduce(x.a, x.b); c != x.c || d != x.d || e != api.OK {
			t.Error(x, c, d, e)
		}
	}
	for _, a := range numbers {
		for _, b := range numbers[1:] {
			c, d, e := proportion.Reduce(a, b)
			divisor := new(big.Int).GCD(nil, nil, big.NewInt(int64(c)), big.NewInt(int64(d)))
			if e != api.OK || product(a, d).Cmp(product(b, c)) != 0 || divisor.Int64() != 1 {
				t.Error(a, b, c, d, e)
			}
		}
	}
}

// P1.2: a number that is no amount comes before a division by zero.
func TestReduceRefuses(t *testing.T) {
	check := func(a, b int, want api.Errno) {
		t.Helper()
		if c, d, e := proportion.Reduce(a, b); c != 0 || d != 0 || e != want {
			t.Error(a, b, c, d, e)
		}
	}
	for _, x := range noAmounts {
		check(x, 1, api.ErrRange)
		check(1, x, api.ErrRange)
		check(x, 0, api.ErrRange)
	}
	check(0, 0, api.ErrZero)
	check(5, 0, api.ErrZero)
}

// P1.3: arguments are not changed, also behind their length, and results share no memory with them or with each other.
func TestMemory(t *testing.T) {
	whole := []int{4, 9, 2, -7, -8}
	weights := whole[:3]
	parts, _ := proportion.Divide(10, weights)
	drawn, stays, _ := proportion.Draw(weights, 10)
	again, _, _ := proportion.Draw(weights, 10)
	for i, l := range [][]int{parts, drawn, stays, again} {
		overwrite(l, 100+i)
	}
	if !slices.Equal(whole, []int{4, 9, 2, -7, -8}) {
		t.Error("arguments changed", whole)
	}
	for i, l := range [][]int{parts, drawn, stays, again} {
		if !slices.Equal(l, slices.Repeat([]int{100 + i}, 3)) {
			t.Error("results share memory", i, l)
		}
	}
}

// overwrite sets all numbers of a slice, also those behind its length.
func overwrite(l []int, x int) {
	l = l[:cap(l)]
	for i := range l {
		l[i] = x
	}
}

// P1: no function panics, for all arguments.
func TestNoPanic(t *testing.T) {
	all := append(slices.Clone(noAmounts), 0, 1, most)
	for _, a := range all {
		proportion.Divide(a, all)
		proportion.Draw(all, a)
		for _, b := range all {
			proportion.Reduce(a, b)
			proportion.Divide(a, []int{b, b})
			proportion.Draw([]int{b, a}, a)
			for _, c := range all {
				proportion.Of(a, b, c)
				proportion.Up(a, b, c)
				for _, d := range all {
					proportion.Compare(a, b, c, d)
				}
			}
		}
	}
}
