package mix_test

import (
	"math"
	"math/big"
	"math/rand"
	"slices"
	"testing"

	"spile/alcohol"
	"spile/api"
	"spile/mix"
)

const (
	most     = api.MaxStrength
	least    = api.MinDensity
	greatest = api.MaxDensity
)

// extremes are numbers at and beyond all limits.
var extremes = []int{math.MinInt, math.MinInt + 1, -1, 0, 1, 2, most, most + 1, api.MaxVolume, api.MaxVolume + 1, api.MaxAlcohol, api.MaxAlcohol + 1, api.MaxMass, api.MaxMass + 1, 1 << 62, math.MaxInt - 1, math.MaxInt}

// rows returns rows with the strengths and the densities that follow one another.
func rows(l ...int) []api.Grade {
	var all []api.Grade
	for i := 0; i < len(l); i += 2 {
		all = append(all, api.Grade{Strength: l[i], Density: l[i+1]})
	}
	return all
}

// liquids returns liquids with the alcohol and the mass that follow one another.
func liquids(l ...int) []api.Liquid {
	var all []api.Liquid
	for i := 0; i < len(l); i += 2 {
		all = append(all, api.Liquid{Alcohol: l[i], Mass: l[i+1]})
	}
	return all
}

// example is a table in which liquids contract.
func example() []api.Grade {
	return rows(0, 99820, 5000, 93016, most, 78924)
}

// tables are tables that are right: with flat and steep parts, and up to the limits.
func tables() [][]api.Grade {
	return [][]api.Grade{
		example(), rows(0, 100000, most, 80000), rows(0, greatest, most, least), rows(0, least, most, least), rows(0, greatest, most, greatest),
		rows(0, greatest, 1, least, most, least), rows(0, greatest, 9999, greatest, most, least), rows(0, greatest, 4000, greatest, 4001, least, most, least),
		rows(0, 99820, 2000, 97400, 4000, 94800, 6000, 90900, 8000, 85900, most, 78924),
	}
}

// wrongTables are tables that are not right.
func wrongTables() [][]api.Grade {
	return [][]api.Grade{nil, rows(0, 99820), make([]api.Grade, api.MaxRows+1), rows(0, 99820, most, 99821), rows(1, 99820, most, 78924), rows(0, 99820, 9999, 78924), rows(0, greatest+1, most, least)}
}

// notPlain are liquids that are not plain.
func notPlain() []api.Liquid {
	all := liquids(1, 0, api.MaxAlcohol, 0)
	for _, n := range []int{-1, math.MinInt, math.MaxInt} {
		all = append(all, liquids(n, 0, n, 100, 0, n, 100, n, n, n)...)
	}
	return append(all, liquids(api.MaxAlcohol+1, 100, api.MaxAlcohol+1, api.MaxMass, 0, api.MaxMass+1, 100, api.MaxMass+1)...)
}

// plain returns plain liquids: small ones, ones of all sizes by chance, and those at the limits.
func plain(r *rand.Rand) []api.Liquid {
	all := liquids(0, 0, 0, 1, 1, 1, api.MaxAlcohol, 1, 0, api.MaxMass, 1, api.MaxMass, api.MaxAlcohol, api.MaxMass, api.MaxAlcohol-1, api.MaxMass-1, 1000, 300)
	for range 60 {
		all = append(all, api.Liquid{Alcohol: r.Intn(api.MaxAlcohol>>r.Intn(40) + 1), Mass: 1 + r.Intn(api.MaxMass>>r.Intn(40))})
	}
	return all
}

// P21.1 and P21.2: the examples of the document.
func TestExamples(t *testing.T) {
	l := api.Liquid{Alcohol: 1000, Mass: 300}
	if drawn, stays, e := mix.Draw(l, 100); drawn != (api.Liquid{Alcohol: 333, Mass: 100}) || stays != (api.Liquid{Alcohol: 667, Mass: 200}) || e != api.OK {
		t.Error(drawn, stays, e)
	}
	if parts, e := mix.Divide(l, []int{1, 2}); !slices.Equal(parts, liquids(333, 100, 667, 200)) || e != api.OK {
		t.Error(parts, e)
	}
	table := rows(0, 100000, most, 80000)
	both := liquids(0, 10000000, 1000000, 8000000)
	if n, e := mix.Contraction(table, both); n != 0 || e != api.OK {
		t.Error(n, e)
	}
	if ends, strength, e := mix.Between(table, both); ends != (api.Bounds{High: most}) || strength != 5000 || e != api.OK {
		t.Error(ends, strength, e)
	}
	// A litre of 40 per cent and one of water have 19.99 per cent together, and are 1999 millilitres.
	if n, e := mix.Contraction(example(), liquids(4000000, 94377000, 0, 99820000)); n != 1 || e != api.OK {
		t.Error(n, e)
	}
}

// bigSum returns the mixture of liquids by the definition, and whether it is plain.
func bigSum(l []api.Liquid) (api.Liquid, bool) {
	a, m := new(big.Int), new(big.Int)
	for _, x := range l {
		a.Add(a, big.NewInt(int64(x.Alcohol)))
		m.Add(m, big.NewInt(int64(x.Mass)))
	}
	if a.Cmp(big.NewInt(api.MaxAlcohol)) > 0 || m.Cmp(big.NewInt(api.MaxMass)) > 0 {
		return api.Liquid{}, false
	}
	return api.Liquid{Alcohol: int(a.Int64()), Mass: int(m.Int64())}, true
}

// P21.1 and P21.3: up to 8 liquids of all kinds, in several orders, against math/big.
func TestSum(t *testing.T) {
	if l, e := mix.Sum(nil); l != (api.Liquid{}) || e != api.OK {
		t.Error(l, e)
	}
	r := rand.New(rand.NewSource(211))
	all := plain(r)
	for range 5000 {
		l := make([]api.Liquid, r.Intn(api.MaxLiquids+1))
		for i := range l {
			l[i] = all[r.Intn(len(all))]
		}
		want, fits := bigSum(l)
		failed := api.OK
		if !fits {
			failed = api.ErrLimit
		}
		for range 3 {
			before := slices.Clone(l)
			if got, e := mix.Sum(l); got != want || e != failed || !slices.Equal(l, before) {
				t.Fatal(l, got, e, want)
			}
			r.Shuffle(len(l), func(i, k int) { l[i], l[k] = l[k], l[i] })
		}
	}
}

// P21.1: the least sums that are too great, too many liquids, and liquids that are not plain, wherever they stand.
func TestSumRefuses(t *testing.T) {
	for _, x := range []struct {
		l    []api.Liquid
		want api.Liquid
		e    api.Errno
	}{
		{liquids(api.MaxAlcohol-1, 1, 1, 1), api.Liquid{Alcohol: api.MaxAlcohol, Mass: 2}, api.OK}, {liquids(api.MaxAlcohol-1, 1, 2, 1), api.Liquid{}, api.ErrLimit},
		{liquids(0, api.MaxMass-1, 1, 1), api.Liquid{Alcohol: 1, Mass: api.MaxMass}, api.OK}, {liquids(0, api.MaxMass-1, 0, 2), api.Liquid{}, api.ErrLimit}, {liquids(api.MaxAlcohol, api.MaxMass, 0, 1), api.Liquid{}, api.ErrLimit},
		{liquids(1, 1, 1, 1, 1, 1, 1, 1, 1, 1, 1, 1, 1, 1, 1, 1), api.Liquid{Alcohol: 8, Mass: 8}, api.OK}, {make([]api.Liquid, 9), api.Liquid{}, api.ErrTooLarge}, {slices.Repeat(notPlain()[:1], 9), api.Liquid{}, api.ErrTooLarge},
		{slices.Repeat(liquids(api.MaxAlcohol, api.MaxMass), 9), api.Liquid{}, api.ErrTooLarge}, {slices.Repeat(liquids(api.MaxAlcohol, api.MaxMass), 8), api.Liquid{}, api.ErrLimit},
		{liquids(-1, 100, 1, 100), api.Liquid{}, api.ErrArg}, {liquids(5, 0, 5, 10), api.Liquid{}, api.ErrArg}, {liquids(0, -1, 0, 1), api.Liquid{}, api.ErrArg},
	} {
		if got, e := mix.Sum(x.l); got != x.want || e != x.e {
			t.Error(x, got, e)
		}
	}
	for _, x := range notPlain() {
		for at := range 8 {
			// All of them together would be too much.
			l := slices.Repeat(liquids(api.MaxAlcohol, api.MaxMass), 8)
			l[at] = x
			if got, e := mix.Sum(l); got != (api.Liquid{}) || e != api.ErrArg {
				t.Error(l, got, e)
			}
		}
		if got, e := mix.Sum([]api.Liquid{x}); got != (api.Liquid{}) || e != api.ErrArg {
			t.Error(x, got, e)
		}
	}
}

// bigPart returns the proportion a b / c, rounded down, by the definition; 0 if c is 0.
func bigPart(a, b, c int) int {
	if c == 0 {
		return 0
	}
	n := new(big.Int).Mul(big.NewInt(int64(a)), big.NewInt(int64(b)))
	return int(n.Div(n, big.NewInt(int64(c))).Int64())
}

// checkDraw draws a mass from a plain liquid, and compares with the definition.
func checkDraw(t *testing.T, l api.Liquid, mass int) {
	t.Helper()
	drawn, stays, e := mix.Draw(l, mass)
	want, rest, failed := api.Liquid{}, api.Liquid{}, api.OK
	switch {
	case mass < 0:
		failed = api.ErrRange
	case mass > l.Mass:
		failed = api.ErrShort
	default:
		want = api.Liquid{Alcohol: bigPart(l.Alcohol, mass, l.Mass), Mass: mass}
		rest = api.Liquid{Alcohol: l.Alcohol - want.Alcohol, Mass: l.Mass - mass}
	}
	if drawn != want || stays != rest || e != failed {
		t.Fatal(l, mass, drawn, stays, e)
	}
	if e != api.OK {
		return
	}
	if sum, e := mix.Sum([]api.Liquid{drawn, stays}); sum != l || e != api.OK {
		t.Fatal(l, mass, sum, e)
	}
}

// P21.1 and P21.3: all small liquids and masses, and liquids of all kinds; what is drawn and what stays make the liquid.
func TestDraw(t *testing.T) {
	for mass := range 13 {
		for n := range 30 {
			if mass == 0 && n > 0 {
				continue
			}
			for drawn := -1; drawn <= mass+2; drawn++ {
				checkDraw(t, api.Liquid{Alcohol: n, Mass: mass}, drawn)
			}
		}
	}
	r := rand.New(rand.NewSource(212))
	for _, l := range plain(r) {
		for _, mass := range append(extremes, l.Mass-1, l.Mass, l.Mass+1, l.Mass/2, l.Mass/3, r.Intn(l.Mass+1), r.Intn(l.Mass+1)) {
			checkDraw(t, l, mass)
		}
	}
}

// P21.1: a liquid that is not plain comes before every mass.
func TestDrawRefuses(t *testing.T) {
	for _, l := range notPlain() {
		for _, mass := range append(extremes, 50, 100) {
			if drawn, stays, e := mix.Draw(l, mass); drawn != (api.Liquid{}) || stays != (api.Liquid{}) || e != api.ErrArg {
				t.Error(l, mass, drawn, stays, e)
			}
		}
	}
}

// bigDivide returns the parts of an amount by the definition: those rounded down, and 1 more for the greatest remainders, the first ones first.
func bigDivide(a int, weights []int) []int {
	sum := new(big.Int)
	for _, w := range weights {
		sum.Add(sum, big.NewInt(int64(w)))
	}
	parts, remainders := make([]int, len(weights)), make([]*big.Int, len(weights))
	left := a
	for i, w := range weights {
		q, r := new(big.Int).DivMod(new(big.Int).Mul(big.NewInt(int64(a)), big.NewInt(int64(w))), sum, new(big.Int))
		parts[i], remainders[i] = int(q.Int64()), r
		left -= parts[i]
	}
	order := make([]int, len(weights))
	for i := range order {
		order[i] = i
	}
	slices.SortStableFunc(order, func(i, k int) int { return remainders[k].Cmp(remainders[i]) })
	for _, i := range order[:left] {
		parts[i]++
	}
	return parts
}

// checkDivide divides a plain liquid by right weights, and compares with the definition.
func checkDivide(t *testing.T, l api.Liquid, weights []int) {
	t.Helper()
	before := slices.Clone(weights)
	want := make([]api.Liquid, len(weights))
	masses := bigDivide(l.Mass, weights)
	if l.Mass > 0 {
		for i, a := range bigDivide(l.Alcohol, masses) {
			want[i] = api.Liquid{Alcohol: a, Mass: masses[i]}
		}
	}
	parts, e := mix.Divide(l, weights)
	if !slices.Equal(parts, want) || e != api.OK || !slices.Equal(weights, before) {
		t.Fatal(l, weights, parts, e)
	}
	if sum, _ := bigSum(parts); sum != l {
		t.Fatal(l, weights, parts)
	}
	for _, x := range parts {
		if sum, e := mix.Sum([]api.Liquid{x}); sum != x || e != api.OK {
			t.Fatal(l, weights, x, e)
		}
	}
}

// P21.2 and P21.3: all small liquids by small weights, and liquids of all kinds; all parts are plain and make the liquid.
func TestDivide(t *testing.T) {
	for mass := range 7 {
		for n := range 9 {
			if mass == 0 && n > 0 {
				continue
			}
			for w := 1; w < 125; w++ {
				checkDivide(t, api.Liquid{Alcohol: n, Mass: mass}, []int{w % 5, w / 5 % 5, w / 25})
			}
		}
	}
	r := rand.New(rand.NewSource(213))
	for _, l := range plain(r) {
		checkDivide(t, l, []int{api.MaxMass})
		checkDivide(t, l, []int{0, api.MaxMass - 1, 1})
		checkDivide(t, l, slices.Repeat([]int{1}, api.MaxShares))
		for range 20 {
			weights := make([]int, 1+r.Intn(api.MaxShares))
			for i := range weights {
				weights[i] = r.Intn(api.MaxMass/api.MaxShares>>r.Intn(40) + 1)
			}
			weights[r.Intn(len(weights))]++
			checkDivide(t, l, weights)
		}
	}
}

// P21.2: what is not divided, also if there is nothing to divide.
func TestDivideRefuses(t *testing.T) {
	wrong := []struct {
		weights []int
		e       api.Errno
	}{
		{nil, api.ErrEmpty}, {[]int{}, api.ErrEmpty}, {make([]int, api.MaxShares+1), api.ErrTooLarge}, {slices.Repeat([]int{-1}, api.MaxShares+1), api.ErrTooLarge},
		{[]int{1, -1}, api.ErrRange}, {[]int{0, -1}, api.ErrRange}, {[]int{api.MaxMass + 1}, api.ErrRange}, {[]int{api.MaxMass, 1}, api.ErrRange}, {[]int{math.MinInt, math.MaxInt, 2}, api.ErrRange},
		{[]int{0}, api.ErrZero}, {make([]int, api.MaxShares), api.ErrZero},
	}
	for _, x := range wrong {
		for _, l := range liquids(0, 0, 0, 100, 1000, 300, api.MaxAlcohol, api.MaxMass) {
			if parts, e := mix.Divide(l, x.weights); len(parts) != 0 || e != x.e {
				t.Error(l, x, parts, e)
			}
		}
		for _, l := range notPlain() {
			if parts, e := mix.Divide(l, x.weights); len(parts) != 0 || e != api.ErrArg {
				t.Error(l, x, parts, e)
			}
		}
	}
	for _, l := range notPlain() {
		if parts, e := mix.Divide(l, []int{1, 2}); len(parts) != 0 || e != api.ErrArg {
			t.Error(l, parts, e)
		}
	}
}

// rightLiquids returns liquids that are right for a table: of volumes and strengths, of other masses, and at the limits.
func rightLiquids(t *testing.T, r *rand.Rand, table []api.Grade) []api.Liquid {
	t.Helper()
	all := liquids(0, 0, 0, 1, 0, 99820, 0, api.MaxMass, 1, api.MaxMass)
	for _, strength := range []int{0, 1, 2, 3999, 4000, 4001, 5000, 9999, most, r.Intn(most), r.Intn(most), r.Intn(most)} {
		for _, volume := range []int{1, 1000, r.Intn(api.MaxVolume), r.Intn(1 << 20), api.MaxVolume} {
			l, e := alcohol.Of(table, volume, strength)
			if e != api.OK {
				t.Fatal(table, volume, strength, e)
			}
			all = append(all, l)
			more := api.Liquid{Alcohol: l.Alcohol, Mass: l.Mass + r.Intn(100000)}
			if alcohol.Check(table, more) == api.OK {
				all = append(all, more)
			}
			less := api.Liquid{Alcohol: l.Alcohol - r.Intn(l.Alcohol+1), Mass: l.Mass}
			all = append(all, less)
		}
	}
	return all
}

// checkMixture mixes liquids that are right for a table, and compares with the definition.
func checkMixture(t *testing.T, table []api.Grade, l []api.Liquid) {
	t.Helper()
	before := slices.Clone(l)
	n, e := mix.Contraction(table, l)
	ends, strength, f := mix.Between(table, l)
	if !slices.Equal(l, before) {
		t.Fatal("changed", before, l)
	}
	sum, fits := bigSum(l)
	if !fits {
		if n != 0 || e != api.ErrLimit || ends != (api.Bounds{}) || strength != 0 || f != api.ErrLimit {
			t.Fatal(table, l, n, e, ends, strength, f)
		}
		return
	}
	// Mixtures of right liquids are right.
	all, g := alcohol.Volume(table, sum)
	if g != api.OK {
		t.Fatal(table, l, g)
	}
	low, high := math.MaxInt, math.MinInt
	want := -all
	for _, x := range l {
		volume, _ := alcohol.Volume(table, x)
		want += volume
		if s, _ := alcohol.Strength(table, x); x.Mass > 0 {
			low, high = min(low, s), max(high, s)
		}
	}
	if n != want || e != api.OK {
		t.Fatal(table, l, n, e, want)
	}
	if sum.Mass == 0 {
		if ends != (api.Bounds{}) || strength != 0 || f != api.ErrEmpty {
			t.Fatal(table, l, ends, strength, f)
		}
		return
	}
	s, _ := alcohol.Strength(table, sum)
	if ends != (api.Bounds{Low: low, High: high}) || strength != s || s < low || s > high || f != api.OK {
		t.Fatal(table, l, ends, strength, f, low, high, s)
	}
}

// P21.2 and P21.3: mixtures of right liquids in tables of all kinds, against the definition; their strength lies between those of the liquids.
func TestMixtures(t *testing.T) {
	r := rand.New(rand.NewSource(214))
	for _, table := range tables() {
		all := rightLiquids(t, r, table)
		checkMixture(t, table, nil)
		checkMixture(t, table, make([]api.Liquid, api.MaxLiquids))
		for _, x := range all {
			checkMixture(t, table, []api.Liquid{x})
			checkMixture(t, table, []api.Liquid{{}, x, {}})
		}
		for range 500 {
			l := make([]api.Liquid, r.Intn(api.MaxLiquids+1))
			for i := range l {
				l[i] = all[r.Intn(len(all))]
			}
			checkMixture(t, table, l)
			slices.Reverse(l)
			checkMixture(t, table, l)
		}
	}
}

// P21.2: liquids by hand: what does not contract, what contracts, what becomes more, and parts of a millilitre that make a whole one.
func TestContraction(t *testing.T) {
	steep := rows(0, greatest, 1, least, most, least)
	late := rows(0, greatest, 9999, greatest, most, least)
	for _, x := range []struct {
		table        []api.Grade
		l            []api.Liquid
		n, low, high int
		strength     int
	}{
		{example(), liquids(0, 49910, 0, 49910), -1, 0, 0, 0},
		{example(), liquids(0, 149730, 0, 49910, 0, 0), -1, 0, 0, 0},
		{example(), liquids(0, 99820000, 0, 0), 0, 0, 0, 0},
		{steep, liquids(0, greatest*10, most*10, least*10), 10 + 10 - 34, 0, most, 2941},
		{late, liquids(0, greatest*10, most*10, least*10), 10 + 10 - 14, 0, most, 7058},
	} {
		if n, e := mix.Contraction(x.table, x.l); n != x.n || e != api.OK {
			t.Error(x, n, e)
		}
		if ends, strength, e := mix.Between(x.table, x.l); ends != (api.Bounds{Low: x.low, High: x.high}) || strength != x.strength || e != api.OK {
			t.Error(x, ends, strength, e)
		}
	}
}

// refuse checks that a mixture has neither a contraction nor a strength.
func refuse(t *testing.T, table []api.Grade, l []api.Liquid, want api.Errno) {
	t.Helper()
	if n, e := mix.Contraction(table, l); n != 0 || e != want {
		t.Error(table, l, n, e)
	}
	if ends, strength, e := mix.Between(table, l); ends != (api.Bounds{}) || strength != 0 || e != want {
		t.Error(table, l, ends, strength, e)
	}
}

// P21.2: too many liquids come first, then tables and liquids that are not right, then mixtures that are not plain, and then no mass.
func TestMixtureRefuses(t *testing.T) {
	water := api.Liquid{Mass: api.MaxMass}
	for _, table := range append(wrongTables(), example()) {
		refuse(t, table, make([]api.Liquid, api.MaxLiquids+1), api.ErrTooLarge)
		refuse(t, table, slices.Repeat(liquids(-1, -1), api.MaxLiquids+1), api.ErrTooLarge)
		refuse(t, table, slices.Repeat([]api.Liquid{water}, api.MaxLiquids+1), api.ErrTooLarge)
	}
	for _, table := range wrongTables() {
		for _, l := range [][]api.Liquid{nil, liquids(0, 0), liquids(0, 100), {water, water}, notPlain()[:3]} {
			refuse(t, table, l, api.ErrArg)
		}
	}
	// Plain, but stronger than alcohol.
	wrong := append(notPlain(), liquids(1, 1, 10001, 78924, api.MaxAlcohol, 78924*api.MaxVolume-1)...)
	for _, x := range wrong {
		refuse(t, example(), []api.Liquid{x}, api.ErrArg)
		refuse(t, example(), []api.Liquid{{}, x}, api.ErrArg)
		refuse(t, example(), []api.Liquid{x, water, water}, api.ErrArg)
		refuse(t, example(), []api.Liquid{water, water, x}, api.ErrArg)
	}
	refuse(t, example(), []api.Liquid{water, {Mass: 1}}, api.ErrLimit)
	refuse(t, example(), liquids(api.MaxAlcohol, 78924*api.MaxVolume, 1, 8), api.ErrLimit)
	for n := range api.MaxLiquids + 1 {
		if ends, strength, e := mix.Between(example(), make([]api.Liquid, n)); ends != (api.Bounds{}) || strength != 0 || e != api.ErrEmpty {
			t.Error(n, ends, strength, e)
		}
		if n, e := mix.Contraction(example(), make([]api.Liquid, n)); n != 0 || e != api.OK {
			t.Error(n, e)
		}
	}
}

// P21.3: what is drawn from a liquid that is right for a table is right for it, and not stronger.
func TestDrawnIsRight(t *testing.T) {
	r := rand.New(rand.NewSource(215))
	for _, table := range tables() {
		for _, l := range rightLiquids(t, r, table) {
			before, _ := alcohol.Strength(table, l)
			for _, mass := range []int{0, 1, 2, 78924, l.Mass / 2, l.Mass - 1, l.Mass, r.Intn(l.Mass + 1)} {
				drawn, _, e := mix.Draw(l, mass)
				if e != api.OK {
					continue
				}
				if s, e := alcohol.Strength(table, drawn); s > before || e != api.OK {
					t.Fatal(table, l, mass, drawn, s, e)
				}
			}
		}
	}
}

// Arguments are not changed, nor is what lies behind them in the same memory; results share no memory.
func TestArgumentsStay(t *testing.T) {
	table := append(example(), api.Grade{Strength: 7, Density: 7})[:3]
	l := append(liquids(4000000, 94377000, 0, 99820000), api.Liquid{Alcohol: 7, Mass: 7})[:2]
	weights := append([]int{2, 1}, 7)[:2]
	mix.Sum(l)
	mix.Contraction(table, l)
	mix.Between(table, l)
	parts, _ := mix.Divide(l[0], weights)
	want := slices.Clone(parts)
	_ = append(parts, api.Liquid{Alcohol: 9, Mass: 9})
	clear(parts)
	if again, _ := mix.Divide(l[0], weights); !slices.Equal(again, want) {
		t.Error(again, want)
	}
	if !slices.Equal(table[:4], append(example(), api.Grade{Strength: 7, Density: 7})) || !slices.Equal(l[:3], liquids(4000000, 94377000, 0, 99820000, 7, 7)) || !slices.Equal(weights[:3], []int{2, 1, 7}) {
		t.Error(table[:4], l[:3], weights[:3])
	}
}

// P1: no function panics, for all arguments.
func TestNoPanic(t *testing.T) {
	for _, a := range extremes {
		for _, b := range extremes {
			x := api.Liquid{Alcohol: a, Mass: b}
			for _, l := range [][]api.Liquid{nil, {x}, {x, x, x}, {{}, x}, slices.Repeat([]api.Liquid{x}, api.MaxLiquids), slices.Repeat([]api.Liquid{x}, 100)} {
				mix.Sum(l)
				for _, table := range [][]api.Grade{nil, rows(a, b), rows(0, greatest, a, b, most, least), example()} {
					mix.Contraction(table, l)
					mix.Between(table, l)
				}
			}
			for _, c := range extremes {
				mix.Draw(x, c)
				mix.Divide(x, []int{c})
				mix.Divide(x, []int{a, b, c})
			}
		}
	}
}
