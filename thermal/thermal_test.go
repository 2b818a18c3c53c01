package thermal_test

import (
	"math"
	"math/big"
	"slices"
	"testing"

	"spile/api"
	"spile/thermal"
)

const (
	most    = api.MaxMass
	maxRise = 10000
	whole   = 10000000
)

// rules are all rules, and noRules numbers that are none.
var (
	rules   = []int{api.RoundDown, api.RoundUp, api.RoundHalfUp, api.RoundHalfEven}
	noRules = []int{0, 5, -1, math.MinInt, math.MaxInt}
)

// rises, heats and measures are right numbers, most of them at the edges of something.
var (
	rises    = []int{0, 1, 2, 3, 110, 999, 9999, maxRise}
	heats    = []int{api.MinHeat, -399, -1, 0, 1, 100, 199, 200, 201, 300, 599, api.MaxHeat}
	measures = []int{0, 1, 2, 3, 7, 10, 100, 998, 999, 1000, 1001, whole - 1, whole, whole + 1, 1 << 32, most / 10 * 4, most / 14 * 10, most/14*10 + 1, most - 1, most}
)

// noRises, noHeats and noMeasures are numbers that are none.
var (
	noRises    = []int{-1, maxRise + 1, math.MinInt, math.MaxInt}
	noHeats    = []int{api.MinHeat - 1, api.MaxHeat + 1, math.MinInt, math.MaxInt}
	noMeasures = []int{-1, most + 1, math.MinInt, math.MaxInt}
)

// quotient returns a b / c by a rule, from the neighbours on both sides.
func quotient(a, b, c, rule int) *big.Int {
	product := new(big.Int).Mul(big.NewInt(int64(a)), big.NewInt(int64(b)))
	down, rest := new(big.Int).DivMod(product, big.NewInt(int64(c)), new(big.Int))
	nearer := new(big.Int).Lsh(rest, 1).Cmp(big.NewInt(int64(c)))
	up := rule == api.RoundUp && rest.Sign() > 0 ||
		rule == api.RoundHalfUp && nearer >= 0 ||
		rule == api.RoundHalfEven && (nearer > 0 || nearer == 0 && down.Bit(0) == 1)
	if up {
		down.Add(down, big.NewInt(1))
	}
	return down
}

// P5.1: the examples of the document, both ends of rises and heats, and no change at 20 degrees.
func TestFactor(t *testing.T) {
	for _, x := range []struct{ rise, heat, want int }{
		{110, 300, 10011000},
		{110, 100, 9989000},
		{110, 200, whole},
		{110, 201, 10000110},
		{0, api.MinHeat, whole},
		{0, api.MaxHeat, whole},
		{1, 199, whole - 1},
		{maxRise, api.MinHeat, 4000000},
		{maxRise, api.MaxHeat, 14000000},
		{maxRise, 0, 8000000},
	} {
		if got, e := thermal.Factor(x.rise, x.heat); got != x.want || e != api.OK {
			t.Error(x, got, e)
		}
	}
	for _, rise := range rises {
		for _, heat := range heats {
			if got, e := thermal.Factor(rise, heat); got != whole+rise*heat-200*rise || e != api.OK {
				t.Error(rise, heat, got, e)
			}
		}
	}
}

// P5.1: what is no rise, or no heat.
func TestFactorRefuses(t *testing.T) {
	check := func(rise, heat int) {
		t.Helper()
		if got, e := thermal.Factor(rise, heat); got != 0 || e != api.ErrRange {
			t.Error(rise, heat, got, e)
		}
	}
	for _, rise := range noRises {
		check(rise, 200)
		check(rise, api.MaxHeat+1)
	}
	for _, heat := range noHeats {
		check(0, heat)
		check(110, heat)
	}
}

// P5.1: the example of the document, and what it leads to by each rule, in both directions.
func TestExamples(t *testing.T) {
	for _, x := range []struct {
		v, rise, heat int
		at, to20      [4]int // by rules
	}{
		{1000, 110, 300, [4]int{1001, 1002, 1001, 1001}, [4]int{998, 999, 999, 999}},
		{1000, 110, 100, [4]int{998, 999, 999, 999}, [4]int{1001, 1002, 1001, 1001}},
		{1000, 110, 200, [4]int{1000, 1000, 1000, 1000}, [4]int{1000, 1000, 1000, 1000}},
		{1000, 0, 600, [4]int{1000, 1000, 1000, 1000}, [4]int{1000, 1000, 1000, 1000}},
		{0, 110, 300, [4]int{}, [4]int{}},
		{1, maxRise, api.MinHeat, [4]int{0, 1, 0, 0}, [4]int{2, 3, 3, 2}},
		{3, maxRise, api.MinHeat, [4]int{1, 2, 1, 1}, [4]int{7, 8, 8, 8}},
		{5, maxRise, 300, [4]int{5, 6, 6, 6}, [4]int{4, 5, 5, 5}},
		{15, maxRise, 300, [4]int{16, 17, 17, 16}, [4]int{13, 14, 14, 14}},
		{most, maxRise, 200, [4]int{most, most, most, most}, [4]int{most, most, most, most}},
	} {
		for i, rule := range rules {
			if got, e := thermal.At(x.v, x.rise, x.heat, rule); got != x.at[i] || e != api.OK {
				t.Error("At", x, rule, got, e)
			}
			if got, e := thermal.To20(x.v, x.rise, x.heat, rule); got != x.to20[i] || e != api.OK {
				t.Error("To20", x, rule, got, e)
			}
		}
	}
}

// P5.1: many measures, against the definition; close to the limit the rule decides whether the result is beyond it.
func TestCorrections(t *testing.T) {
	for _, rise := range rises {
		for _, heat := range heats {
			factor := whole + rise*(heat-200)
			for _, rule := range rules {
				for _, v := range append(limits(factor, whole), measures...) {
					got, e := thermal.At(v, rise, heat, rule)
					compare(t, got, e, quotient(v, factor, whole, rule))
				}
				for _, v := range append(limits(whole, factor), measures...) {
					got, e := thermal.To20(v, rise, heat, rule)
					compare(t, got, e, quotient(v, whole, factor, rule))
				}
			}
		}
	}
}

// limits returns measures around the one that is the limit, if it is multiplied by a and divided by b.
func limits(a, b int) []int {
	l := []int{}
	middle := int(quotient(most, b, a, api.RoundDown).Int64())
	for v := middle - 2; v <= min(middle+3, most); v++ {
		l = append(l, v)
	}
	return l
}

func compare(t *testing.T, got int, e api.Errno, want *big.Int) {
	t.Helper()
	if want.Cmp(big.NewInt(most)) > 0 {
		if got != 0 || e != api.ErrLimit {
			t.Fatal("beyond the limit", got, e, want)
		}
	} else if int64(got) != want.Int64() || e != api.OK {
		t.Fatal(got, e, want)
	}
}

// P5.1: what is no rule comes first, then what is out of range, then the limit.
func TestCorrectionsRefuse(t *testing.T) {
	check := func(v, rise, heat, rule int, want api.Errno) {
		t.Helper()
		if got, e := thermal.At(v, rise, heat, rule); got != 0 || e != want {
			t.Error("At", v, rise, heat, rule, got, e)
		}
		if got, e := thermal.To20(v, rise, heat, rule); got != 0 || e != want {
			t.Error("To20", v, rise, heat, rule, got, e)
		}
	}
	for _, rule := range noRules {
		check(1000, 110, 300, rule, api.ErrArg)
		check(-1, 110, 300, rule, api.ErrArg)
		check(1000, -1, 300, rule, api.ErrArg)
		check(1000, 110, 601, rule, api.ErrArg)
	}
	for _, rule := range rules {
		for _, v := range noMeasures {
			check(v, 110, 300, rule, api.ErrRange)
		}
		for _, rise := range noRises {
			check(1000, rise, 300, rule, api.ErrRange)
			check(most, rise, 300, rule, api.ErrRange)
		}
		for _, heat := range noHeats {
			check(1000, 110, heat, rule, api.ErrRange)
			check(most, 0, heat, rule, api.ErrRange)
		}
		if got, e := thermal.At(most, 1, 201, rule); got != 0 || e != api.ErrLimit {
			t.Error("At", rule, got, e)
		}
		if got, e := thermal.To20(most, 1, 199, rule); got != 0 || e != api.ErrLimit {
			t.Error("To20", rule, got, e)
		}
	}
}

// P5.3: nothing changes at 20 degrees, nor with the rise 0.
func TestNothingChanges(t *testing.T) {
	check := func(v, rise, heat, rule int) {
		t.Helper()
		if got, e := thermal.At(v, rise, heat, rule); got != v || e != api.OK {
			t.Error("At", v, rise, heat, rule, got, e)
		}
		if got, e := thermal.To20(v, rise, heat, rule); got != v || e != api.OK {
			t.Error("To20", v, rise, heat, rule, got, e)
		}
	}
	for _, v := range measures {
		for _, rule := range rules {
			for _, rise := range rises {
				check(v, rise, 200, rule)
			}
			for _, heat := range heats {
				check(v, 0, heat, rule)
			}
		}
	}
}

// P5.3: what is measured at a greater heat is not more at 20 degrees, and a body is not smaller there; there and back differs little.
func TestOrderAndReturn(t *testing.T) {
	for _, rise := range rises {
		for _, rule := range rules {
			for _, v := range []int{0, 1, 2, 3, 5, 999, 1000, 1 << 40} {
				cold, warm := 0, math.MaxInt
				for heat := api.MinHeat; heat <= api.MaxHeat; heat += 7 {
					at, e := thermal.At(v, rise, heat, rule)
					to20, f := thermal.To20(v, rise, heat, rule)
					if at < cold || to20 > warm || e != api.OK || f != api.OK {
						t.Fatal(v, rise, heat, rule, at, to20)
					}
					cold, warm = at, to20
					back, e := thermal.To20(at, rise, heat, rule)
					if max(back-v, v-back) > 4 || e != api.OK {
						t.Fatal("to a heat and back", v, rise, heat, rule, back)
					}
					back, e = thermal.At(to20, rise, heat, rule)
					if max(back-v, v-back) > 3 || e != api.OK {
						t.Fatal("to 20 degrees and back", v, rise, heat, rule, back)
					}
				}
			}
		}
	}
}

// P5.2: the ends come from opposite ends of the heat, and are rounded outward.
func TestBetween(t *testing.T) {
	for _, x := range []struct {
		v, heat api.Bounds
		rise    int
		want    api.Bounds
	}{
		{api.Bounds{Low: 1000, High: 1000}, api.Bounds{Low: 300, High: 300}, 110, api.Bounds{Low: 998, High: 999}},
		{api.Bounds{Low: 1000, High: 1000}, api.Bounds{Low: 100, High: 300}, 110, api.Bounds{Low: 998, High: 1002}},
		{api.Bounds{Low: 1000, High: 2000}, api.Bounds{Low: 100, High: 300}, 110, api.Bounds{Low: 998, High: 2003}},
		{api.Bounds{Low: 1000, High: 2000}, api.Bounds{Low: 200, High: 200}, 110, api.Bounds{Low: 1000, High: 2000}},
		{api.Bounds{Low: 1000, High: 2000}, api.Bounds{Low: api.MinHeat, High: api.MaxHeat}, 0, api.Bounds{Low: 1000, High: 2000}},
		{api.Bounds{Low: 10, High: 10}, api.Bounds{Low: api.MinHeat, High: api.MaxHeat}, maxRise, api.Bounds{Low: 7, High: 25}},
		{api.Bounds{}, api.Bounds{Low: 0, High: 1}, maxRise, api.Bounds{}},
		{api.Bounds{Low: 0, High: most}, api.Bounds{Low: 200, High: 600}, 9, api.Bounds{Low: 0, High: most}},
	} {
		if got, e := thermal.Between(x.v, x.heat, x.rise); got != x.want || e != api.OK {
			t.Error(x, got, e)
		}
	}
}

// P5.2 and P5.3: many bounds, against the definition; whatever lies within them lies, corrected, within the corrected ones.
func TestBetweenEncloses(t *testing.T) {
	for _, rise := range rises {
		for i, cold := range heats {
			for _, warm := range heats[i:] {
				for k, low := range measures {
					for _, high := range measures[k:] {
						checkBetween(t, api.Bounds{Low: low, High: high}, api.Bounds{Low: cold, High: warm}, rise)
					}
				}
			}
		}
	}
}

func checkBetween(t *testing.T, v, heat api.Bounds, rise int) {
	t.Helper()
	low := quotient(v.Low, whole, whole+rise*(heat.High-200), api.RoundDown)
	high := quotient(v.High, whole, whole+rise*(heat.Low-200), api.RoundUp)
	got, e := thermal.Between(v, heat, rise)
	if high.Cmp(big.NewInt(most)) > 0 {
		if got != (api.Bounds{}) || e != api.ErrLimit {
			t.Fatal("beyond the limit", v, heat, rise, got, e)
		}
		return
	}
	if int64(got.Low) != low.Int64() || int64(got.High) != high.Int64() || e != api.OK {
		t.Fatal(v, heat, rise, got, e)
	}
	for _, x := range []int{v.Low, v.Low + (v.High-v.Low)/2, v.High} {
		for _, h := range []int{heat.Low, (heat.Low + heat.High) / 2, heat.High} {
			for _, rule := range rules {
				if in, e := thermal.To20(x, rise, h, rule); in < got.Low || in > got.High || e != api.OK {
					t.Fatal("outside", v, heat, rise, got, x, h, in, e)
				}
			}
		}
	}
}

// P5.2: ends in the wrong order come first, then what is out of range at any end, then the limit.
func TestBetweenRefuses(t *testing.T) {
	check := func(v, heat api.Bounds, rise int, want api.Errno) {
		t.Helper()
		if got, e := thermal.Between(v, heat, rise); got != (api.Bounds{}) || e != want {
			t.Error(v, heat, rise, got, e)
		}
	}
	v, heat := api.Bounds{Low: 1000, High: 2000}, api.Bounds{Low: 100, High: 300}
	check(api.Bounds{Low: 2, High: 1}, heat, 110, api.ErrArg)
	check(v, api.Bounds{Low: 201, High: 200}, 110, api.ErrArg)
	check(api.Bounds{Low: 0, High: -1}, heat, -1, api.ErrArg)
	check(v, api.Bounds{Low: 700, High: 601}, 110, api.ErrArg)
	check(api.Bounds{Low: math.MaxInt, High: math.MinInt}, heat, 110, api.ErrArg)
	for _, rise := range noRises {
		check(v, heat, rise, api.ErrRange)
		check(api.Bounds{Low: 0, High: most}, heat, rise, api.ErrRange)
	}
	for _, x := range noHeats {
		check(v, api.Bounds{Low: min(x, 200), High: max(x, 200)}, 110, api.ErrRange)
		check(v, api.Bounds{Low: x, High: x}, 0, api.ErrRange)
	}
	for _, x := range noMeasures {
		check(api.Bounds{Low: min(x, 1000), High: max(x, 1000)}, heat, 110, api.ErrRange)
		check(api.Bounds{Low: x, High: x}, heat, 0, api.ErrRange)
	}
	cold := api.Bounds{Low: 0, High: 199}
	check(api.Bounds{Low: most, High: most}, cold, 1, api.ErrLimit)
	check(api.Bounds{Low: 0, High: most}, cold, 1, api.ErrLimit)
	check(api.Bounds{Low: 0, High: most}, api.Bounds{Low: 199, High: 600}, 1, api.ErrLimit)
	// One end is out of range, and the other one beyond the limit.
	check(api.Bounds{Low: most, High: most + 1}, cold, 1, api.ErrRange)
	check(api.Bounds{Low: most, High: most}, api.Bounds{Low: -401, High: 0}, 1, api.ErrRange)
	check(api.Bounds{Low: -1, High: most}, cold, 1, api.ErrRange)
	check(api.Bounds{Low: 0, High: most}, api.Bounds{Low: 0, High: 601}, 1, api.ErrRange)
}

// P5.2: the example of the document, negative heats, and as many as are allowed.
func TestMean(t *testing.T) {
	for _, x := range []struct {
		heats []int
		want  [4]int // by rules
	}{
		{[]int{200, 205, 205}, [4]int{203, 204, 203, 203}},
		{[]int{205, 205, 200}, [4]int{203, 204, 203, 203}},
		{[]int{200}, [4]int{200, 200, 200, 200}},
		{[]int{-1, 0}, [4]int{-1, 0, 0, 0}},
		{[]int{-3, 0}, [4]int{-2, -1, -1, -2}},
		{[]int{1, 2}, [4]int{1, 2, 2, 2}},
		{[]int{2, 3}, [4]int{2, 3, 3, 2}},
		{[]int{api.MinHeat, api.MaxHeat}, [4]int{100, 100, 100, 100}},
		{[]int{-10, -10, -11}, [4]int{-11, -10, -10, -10}},
		{slices.Repeat([]int{api.MaxHeat}, api.MaxItems), [4]int{600, 600, 600, 600}},
		{slices.Repeat([]int{api.MinHeat}, api.MaxItems), [4]int{-400, -400, -400, -400}},
	} {
		before := slices.Clone(x.heats)
		for i, rule := range rules {
			if got, e := thermal.Mean(x.heats, rule); got != x.want[i] || e != api.OK {
				t.Error(x, rule, got, e)
			}
		}
		if !slices.Equal(x.heats, before) {
			t.Error("changed", x)
		}
	}
}

// P5.3: a mean lies between the least and the greatest heat, and within one step of the exact one.
func TestMeanProperties(t *testing.T) {
	for n := 1; n <= api.MaxItems; n++ {
		l := make([]int, n)
		sum := 0
		for i := range l {
			l[i] = (i*i*977+n*131)%1001 + api.MinHeat
			sum += l[i]
		}
		down, _ := thermal.Mean(l, api.RoundDown)
		if down*n > sum || (down+1)*n <= sum {
			t.Fatal(l, down)
		}
		for _, rule := range rules {
			got, e := thermal.Mean(l, rule)
			if got < slices.Min(l) || got > slices.Max(l) || got < down || got > down+1 || e != api.OK {
				t.Fatal(l, rule, got, e)
			}
		}
	}
}

// P5.2: what is no rule comes first, then the number of heats, then what is out of range.
func TestMeanRefuses(t *testing.T) {
	check := func(heats []int, rule int, want api.Errno) {
		t.Helper()
		if got, e := thermal.Mean(heats, rule); got != 0 || e != want {
			t.Error(heats, rule, got, e)
		}
	}
	many := make([]int, api.MaxItems+1)
	for _, rule := range noRules {
		check([]int{200}, rule, api.ErrArg)
		check(nil, rule, api.ErrArg)
		check(many, rule, api.ErrArg)
		check([]int{601}, rule, api.ErrArg)
	}
	for _, rule := range rules {
		check(nil, rule, api.ErrEmpty)
		check([]int{}, rule, api.ErrEmpty)
		check(many, rule, api.ErrTooLarge)
		check(many[1:], rule, api.OK)
		check(slices.Repeat([]int{601}, api.MaxItems+1), rule, api.ErrTooLarge)
		for _, x := range noHeats {
			check([]int{x}, rule, api.ErrRange)
			check([]int{x, 200}, rule, api.ErrRange)
			check([]int{200, x}, rule, api.ErrRange)
		}
		check([]int{601, -601}, rule, api.ErrRange)
	}
}

// P1: no function panics, for all arguments.
func TestNoPanic(t *testing.T) {
	all := []int{math.MinInt, -most, -401, -1, 0, 1, 4, 5, 200, 600, maxRise, most, most + 1, math.MaxInt}
	for _, a := range all {
		thermal.Mean(all, a)
		for _, b := range all {
			thermal.Factor(a, b)
			thermal.Mean([]int{a}, b)
			for _, c := range all {
				thermal.Between(api.Bounds{Low: a, High: b}, api.Bounds{Low: a, High: c}, b)
				thermal.Between(api.Bounds{Low: a, High: a}, api.Bounds{Low: b, High: b}, c)
				for _, d := range all {
					thermal.At(a, b, c, d)
					thermal.To20(a, b, c, d)
				}
			}
		}
	}
}
