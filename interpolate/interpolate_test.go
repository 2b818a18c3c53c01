package interpolate_test

import (
	"math"
	"math/big"
	"math/rand"
	"slices"
	"testing"

	"spile/api"
	"spile/density"
	"spile/interpolate"
)

const (
	most     = api.MaxStrength
	least    = api.MinDensity
	greatest = api.MaxDensity
	mostRows = api.MaxRows
)

// extremes are numbers at and beyond all limits.
var extremes = []int{math.MinInt, math.MinInt + 1, -1, 0, 1, 78, 79, 127, 128, 129, most - 1, most, most + 1, least - 1, least, greatest - 1, greatest, greatest + 1, math.MaxInt - 1, math.MaxInt}

// rows returns rows with the strengths and the densities that follow one another.
func rows(l ...int) []api.Grade {
	var all []api.Grade
	for i := 0; i < len(l); i += 2 {
		all = append(all, api.Grade{Strength: l[i], Density: l[i+1]})
	}
	return all
}

// example is a table with the rows of the example of the document.
func example() []api.Grade {
	return rows(0, 99820, 5000, 93016, 10000, 78924)
}

// chance returns a right table with some number of rows, always the same one, whose densities fall from one number to another.
func chance(r *rand.Rand, n, from, to int) []api.Grade {
	t := rows(0, from, most, to)
	for len(t) < n {
		i, found := slices.BinarySearchFunc(t, r.Intn(most), func(g api.Grade, s int) int { return g.Strength - s })
		if found {
			continue
		}
		a, b := t[i-1], t[i]
		if b.Strength-a.Strength < 2 {
			continue
		}
		t = slices.Insert(t, i, api.Grade{Strength: a.Strength + 1 + r.Intn(b.Strength-a.Strength-1), Density: b.Density + r.Intn(a.Density-b.Density+1)})
	}
	return t
}

// straight returns a table with rows of the densities on a line between the ends, rounded down, at the multiples of a step.
func straight(step, from, to int) []api.Grade {
	var t []api.Grade
	for s := 0; s < most; s += step {
		t = append(t, api.Grade{Strength: s, Density: from - (from-to)*s/most})
	}
	return append(t, api.Grade{Strength: most, Density: to})
}

// tables are right tables: with flat and steep parts, with the least and the greatest number of rows, and up to the limits.
func tables() [][]api.Grade {
	all := [][]api.Grade{
		example(),
		rows(0, greatest, most, least), rows(0, least, most, least), rows(0, greatest, most, greatest), rows(0, 90001, most, 90000), rows(0, 90003, most, 90000),
		rows(0, 99820, 1, 99820, 2, 99819, 9999, 80000, most, 80000),
		rows(0, greatest, 1, least, most, least), rows(0, greatest, 9999, greatest, most, least), rows(0, greatest, 5000, greatest, 5001, least, most, least),
		rows(0, 90002, 3333, 90001, 6666, 90001, most, 90000), rows(0, 90000, 3333, 90000, 6666, 90000, most, 90000),
		straight(79, 99820, 78924), straight(100, 90100, 90000), straight(500, 90019, 90000), straight(1000, greatest, least),
	}
	r := rand.New(rand.NewSource(18))
	for _, n := range []int{3, 4, 10, mostRows - 1, mostRows} {
		all = append(all, chance(r, n, 99820, 78924), chance(r, n, greatest, least), chance(r, n, 90002, 90000), chance(r, n, 90050, 90000))
	}
	return all
}

// wrongTables are tables that are not right.
func wrongTables() [][]api.Grade {
	return [][]api.Grade{
		nil, rows(0, 99820), rows(0, 99820, 9999, 78924), rows(1, 99820, most, 78924), rows(0, 78924, most, 99820), rows(0, 99820, most, 78924, most, 78924),
		rows(0, greatest+1, most, least), rows(0, greatest, most, least-1), rows(0, 99820, most+1, 78924), rows(-1, 99820, most, 78924), rows(most, 78924, 0, 99820),
		append(straight(79, 99820, 78924), straight(79, 99820, 78924)...), make([]api.Grade, mostRows+1),
	}
}

// line returns the density on the line between two rows, rounded half up, with numbers of any size.
func line(a, b api.Grade, strength int) int {
	// (2 x + 1) / 2 rounded down, x being the number on the line; the denominator is positive, so Div rounds down.
	n := new(big.Int).Mul(big.NewInt(int64(b.Density-a.Density)), big.NewInt(int64(strength-a.Strength)))
	length := big.NewInt(int64(b.Strength - a.Strength))
	n.Add(n, new(big.Int).Mul(big.NewInt(int64(a.Density)), length))
	n.Add(n.Lsh(n, 1), length)
	return int(n.Div(n, length.Lsh(length, 1)).Int64())
}

// densities returns the densities at all strengths by the definition.
func densities(t []api.Grade) []int {
	var all []int
	for i, g := range t {
		all = append(all, g.Density)
		for s := g.Strength + 1; i+1 < len(t) && s < t[i+1].Strength; s++ {
			all = append(all, line(g, t[i+1], s))
		}
	}
	return all
}

// P18.1: the example of the document.
func TestExample(t *testing.T) {
	for strength, want := range map[int]int{0: 99820, 2500: 96418, 5000: 93016, 6000: 90198, 7500: 85970, 9999: 78927, 10000: 78924} {
		if d, e := interpolate.Density(example(), strength); d != want || e != api.OK {
			t.Error(strength, d, e)
		}
	}
	if s, e := interpolate.Strength(example(), 90198); s != 6000 || e != api.OK {
		t.Error(s, e)
	}
	if b, e := interpolate.Range(example(), 90198); b != (api.Bounds{Low: 6000, High: 6000}) || e != api.OK {
		t.Error(b, e)
	}
	if got, e := interpolate.Thin(rows(0, 99820, 5000, 93016, 7500, 85970, 10000, 78924)); !slices.Equal(got, example()) || e != api.OK {
		t.Error(got, e)
	}
}

// P18.1: of two nearest numbers the greater one, on falling lines.
func TestHalves(t *testing.T) {
	for i, x := range []struct {
		t              []api.Grade
		strength, want int
	}{
		{rows(0, 90001, most, 90000), 4999, 90001}, {rows(0, 90001, most, 90000), 5000, 90001}, {rows(0, 90001, most, 90000), 5001, 90000},
		{rows(0, 90003, most, 90000), 5000, 90002}, {rows(0, 90003, 2, 90000, most, 90000), 1, 90002}, {rows(0, 90003, 3, 90001, most, 90001), 1, 90002},
		{rows(0, 90003, 3, 90001, most, 90001), 2, 90002}, {rows(0, 90003, 9998, 90003, most, 90002), 9999, 90003},
	} {
		if d, e := interpolate.Density(x.t, x.strength); d != x.want || e != api.OK {
			t.Error(i, d, e)
		}
	}
}

// P18.1 and P18.4: the densities at all strengths are those of the definition, do not increase, and lie between those of the neighbouring rows.
func TestDensity(t *testing.T) {
	for _, table := range tables() {
		before := slices.Clone(table)
		next := 1
		for strength, want := range densities(table) {
			d, e := interpolate.Density(table, strength)
			if d != want || e != api.OK {
				t.Fatal(table, strength, d, e, want)
			}
			if strength > table[next].Strength {
				next++
			}
			if d > table[next-1].Density || d < table[next].Density {
				t.Fatal(table, strength, d)
			}
		}
		for _, strength := range []int{-1, most + 1, math.MinInt, math.MaxInt} {
			if d, e := interpolate.Density(table, strength); d != 0 || e != api.ErrRange {
				t.Error(table, strength, d, e)
			}
		}
		if !slices.Equal(table, before) {
			t.Error("changed", table)
		}
	}
}

// asked are the densities that are asked of a table: near each of its rows, near the limits, and some between.
func asked(table []api.Grade) []int {
	all := []int{least - 1, least, least + 1, greatest - 1, greatest, greatest + 1, 0, -1, math.MinInt, math.MaxInt}
	for _, g := range table {
		for d := -3; d <= 3; d++ {
			all = append(all, g.Density+d)
		}
	}
	for d := least; d <= greatest; d += 97 {
		all = append(all, d)
	}
	return all
}

// ofDensity returns by the definition the strengths that have a density, or none.
func ofDensity(all []int, density int) (api.Bounds, bool) {
	b, found := api.Bounds{}, false
	for strength, d := range all {
		if d != density {
			continue
		}
		if !found {
			b.Low, found = strength, true
		}
		b.High = strength
	}
	return b, found
}

// P18.1: Strength and Range against the densities of all strengths.
func TestStrength(t *testing.T) {
	for _, table := range tables() {
		before := slices.Clone(table)
		all := densities(table)
		for _, d := range asked(table) {
			want, e := 0, api.OK
			for strength := range all {
				if all[strength] >= d {
					want = strength
				}
			}
			if d < least || d > greatest || d > all[0] {
				want, e = 0, api.ErrRange
			}
			if got, f := interpolate.Strength(table, d); got != want || f != e {
				t.Fatal(table, d, got, f)
			}
			b, found := ofDensity(all, d)
			switch {
			case d < least || d > greatest:
				e = api.ErrRange
			case !found:
				e = api.ErrNotFound
			default:
				e = api.OK
			}
			if got, f := interpolate.Range(table, d); got != b || f != e {
				t.Fatal(table, d, got, f)
			}
		}
		if !slices.Equal(table, before) {
			t.Error("changed", table)
		}
	}
}

// P18.1 and P18.4: all densities of tables that fall: Strength undoes Density where no neighbour has the same one.
func TestStrengthUndoes(t *testing.T) {
	for _, table := range tables() {
		all := densities(table)
		for strength, d := range all {
			if strength%7 > 0 && strength < most {
				continue
			}
			b, e := interpolate.Range(table, d)
			if e != api.OK || strength < b.Low || strength > b.High || all[b.Low] != d || all[b.High] != d || b.Low > 0 && all[b.Low-1] == d || b.High < most && all[b.High+1] == d {
				t.Fatal(table, strength, b, e)
			}
			if got, e := interpolate.Strength(table, d); got != b.High || e != api.OK {
				t.Fatal(table, strength, got, e)
			}
		}
	}
}

// P18.1: densities at the ends of tables, and beyond.
func TestStrengthEnds(t *testing.T) {
	table := example()
	for i, x := range []struct {
		density, want int
		e             api.Errno
	}{
		{99820, 0, api.OK}, {99821, 0, api.ErrRange}, {greatest, 0, api.ErrRange}, {78924, most, api.OK}, {78923, most, api.OK}, {least, most, api.OK}, {least - 1, 0, api.ErrRange}, {78925, 9999, api.OK}, {99819, 1, api.OK}, {93016, 5000, api.OK},
	} {
		if got, e := interpolate.Strength(table, x.density); got != x.want || e != x.e {
			t.Error(i, got, e)
		}
	}
	for i, x := range []struct {
		density int
		want    api.Bounds
		e       api.Errno
	}{
		{99820, api.Bounds{}, api.OK}, {99821, api.Bounds{}, api.ErrNotFound}, {greatest, api.Bounds{}, api.ErrNotFound}, {greatest + 1, api.Bounds{}, api.ErrRange},
		{78924, api.Bounds{Low: most, High: most}, api.OK}, {78923, api.Bounds{}, api.ErrNotFound}, {least, api.Bounds{}, api.ErrNotFound}, {least - 1, api.Bounds{}, api.ErrRange},
		{93016, api.Bounds{Low: 5000, High: 5000}, api.OK}, {93017, api.Bounds{Low: 4999, High: 4999}, api.OK}, {93014, api.Bounds{}, api.ErrNotFound}, {93013, api.Bounds{Low: 5001, High: 5001}, api.OK},
	} {
		if got, e := interpolate.Range(table, x.density); got != x.want || e != x.e {
			t.Error(i, got, e)
		}
	}
}

// thinned returns the thinned table by the definition, asking all densities of the whole table.
func thinned(table []api.Grade) []api.Grade {
	all := densities(table)
	left := slices.Clone(table)
	for _, g := range table[1 : len(table)-1] {
		i := slices.Index(left, g)
		without := slices.Delete(slices.Clone(left), i, i+1)
		if slices.Equal(densities(without), all) {
			left = without
		}
	}
	return left
}

// short returns a right table with rows near one another from the first strength on, where the rounding decides which of them are needed.
func short(r *rand.Rand, n int) []api.Grade {
	t := rows(0, 90100)
	for range n {
		g := t[len(t)-1]
		t = append(t, api.Grade{Strength: g.Strength + 1 + r.Intn(6), Density: g.Density - r.Intn(5)})
	}
	return append(t, rows(t[n].Strength+1, 60000, most, 60000)...)
}

// P18.2 and P18.4: the thinned tables are those of the definition, with the same densities.
func TestThin(t *testing.T) {
	r := rand.New(rand.NewSource(182))
	all := tables()
	for n := 3; n < 12; n++ {
		all = append(all, chance(r, n, 90003, 90000), chance(r, n, 90008, 90000), short(r, n), short(r, n), short(r, n), short(r, n))
	}
	for _, table := range all {
		before := slices.Clone(table)
		got, e := interpolate.Thin(table)
		if e != api.OK || !slices.Equal(densities(got), densities(table)) {
			t.Fatal(table, got, e)
		}
		if !slices.Equal(table, before) {
			t.Error("changed", table)
		}
		// The definition takes long for many rows.
		if len(table) < 20 && !slices.Equal(got, thinned(table)) {
			t.Fatal(table, got)
		}
	}
}

// P18.2: tables that are as thin as can be, or that get so.
func TestThinExamples(t *testing.T) {
	flat := straight(79, 90000, 90000)
	for i, x := range []struct{ t, want []api.Grade }{
		{rows(0, 99820, most, 78924), rows(0, 99820, most, 78924)}, {example(), example()},
		{flat, rows(0, 90000, most, 90000)},
		{rows(0, 90001, 5000, 90001, most, 90000), rows(0, 90001, 5000, 90001, most, 90000)},
		{rows(0, 90001, 5000, 90001, 5001, 90000, most, 90000), rows(0, 90001, 5000, 90001, 5001, 90000, most, 90000)},
		// The density at one strength alone differs.
		{rows(0, 90001, 5001, 90001, most, 90000), rows(0, 90001, 5001, 90001, most, 90000)},
		{rows(0, 90001, 1, 90000, most, 90000), rows(0, 90001, 1, 90000, most, 90000)},
		{rows(0, 90001, 9999, 90001, most, 90000), rows(0, 90001, 9999, 90001, most, 90000)},
		{rows(0, 99820, 5000, 93016, 6000, 90197, most, 78924), rows(0, 99820, 5000, 93016, 6000, 90197, most, 78924)},
		// A row that was needed at first need not be once a later one is left out, but it is not asked again.
		{rows(0, 90023, 1, 90021, 4, 90017, 5, 90015, 6, 60000, most, 60000), rows(0, 90023, 1, 90021, 5, 90015, 6, 60000, most, 60000)},
		{rows(0, 90023, 1, 90021, 5, 90015, 6, 60000, most, 60000), rows(0, 90023, 5, 90015, 6, 60000, most, 60000)},
		{rows(0, 90011, 1, 90011, 6, 90010, 9, 90009, 13, 90007, 14, 90007, 15, 60000, most, 60000), rows(0, 90011, 6, 90010, 9, 90009, 14, 90007, 15, 60000, most, 60000)},
	} {
		if got, e := interpolate.Thin(x.t); !slices.Equal(got, x.want) || e != api.OK {
			t.Error(i, got, e)
		}
	}
}

// P18.2: the densities at all multiples of the distance, and at the end.
func TestDense(t *testing.T) {
	for _, table := range tables() {
		before := slices.Clone(table)
		all := densities(table)
		for distance := 1; distance <= most; distance++ {
			var want []api.Grade
			for s := 0; s < most; s += distance {
				want = append(want, api.Grade{Strength: s, Density: all[s]})
			}
			want = append(want, api.Grade{Strength: most, Density: all[most]})
			e := api.OK
			if len(want) > mostRows {
				want, e = nil, api.ErrTooLarge
			}
			got, f := interpolate.Dense(table, distance)
			if !slices.Equal(got, want) || f != e {
				t.Fatal(table, distance, got, f)
			}
			if _, f := density.Check(got); e == api.OK && f != api.OK {
				t.Fatal(table, distance, got, f)
			}
			if distance > 200 {
				distance += 36
			}
		}
		if !slices.Equal(table, before) {
			t.Error("changed", table)
		}
	}
}

// P18.2: the least and the greatest distances.
func TestDenseExamples(t *testing.T) {
	for i, x := range []struct{ distance, want int }{{79, 128}, {80, 126}, {5000, 3}, {5001, 3}, {4999, 4}, {3333, 5}, {9999, 3}, {most, 2}} {
		if got, e := interpolate.Dense(example(), x.distance); len(got) != x.want || e != api.OK {
			t.Error(i, got, e)
		}
	}
	for _, distance := range []int{1, 2, 77, 78} {
		if got, e := interpolate.Dense(example(), distance); len(got) != 0 || e != api.ErrTooLarge {
			t.Error(distance, got, e)
		}
	}
	for _, distance := range []int{0, -1, most + 1, math.MinInt, math.MaxInt} {
		if got, e := interpolate.Dense(example(), distance); len(got) != 0 || e != api.ErrRange {
			t.Error(distance, got, e)
		}
	}
	if got, e := interpolate.Dense(example(), 4000); !slices.Equal(got, rows(0, 99820, 4000, 94377, 8000, 84561, most, 78924)) || e != api.OK {
		t.Error(got, e)
	}
}

// P18.3: the greatest difference and the first strength that has it, against the definition.
func TestDiffer(t *testing.T) {
	all := tables()
	for i, table := range all {
		other := all[(i*7+3)%len(all)]
		before, also := slices.Clone(table), slices.Clone(other)
		a, b := densities(table), densities(other)
		for _, distance := range []int{1, 2, 3, 79, 100, 999, 3333, 4999, 5000, 5001, 9999, most} {
			want, at := -1, 0
			for s := range a {
				if n := max(a[s]-b[s], b[s]-a[s]); s%distance == 0 && n > want {
					want, at = n, s
				}
			}
			for _, pair := range [][2][]api.Grade{{table, other}, {other, table}} {
				if n, s, e := interpolate.Differ(pair[0], pair[1], distance); n != want || s != at || e != api.OK {
					t.Fatal(pair, distance, n, s, e)
				}
			}
			if n, s, e := interpolate.Differ(table, table, distance); n != 0 || s != 0 || e != api.OK {
				t.Fatal(table, distance, n, s, e)
			}
		}
		if !slices.Equal(table, before) || !slices.Equal(other, also) {
			t.Error("changed", i)
		}
	}
}

// P18.3: differences at the ends and at strengths that are not asked.
func TestDifferExamples(t *testing.T) {
	table := example()
	for i, x := range []struct {
		u              []api.Grade
		distance, n, s int
	}{
		{rows(0, 99820, 5000, 93000, 10000, 78924), 1000, 16, 5000}, {rows(0, 99820, 5000, 93000, 10000, 78924), most, 0, 0}, {rows(0, 99820, 5000, 93000, 10000, 78924), 4000, 13, 4000},
		{rows(0, 99900, 5000, 93096, 10000, 78924), 5000, 80, 0}, {rows(0, 99820, 5000, 93016, 10000, 78824), 5000, 100, most},
		// The end is asked only where it is a multiple of the distance.
		{rows(0, 99820, 5000, 93016, 10000, 78824), 9999, 100, 9999}, {rows(0, 99820, 5000, 93016, 10000, 78824), 6000, 20, 6000},
		{rows(0, 99820, 5000, 93016, 9999, 78927, 10000, 78824), 9999, 0, 0}, {rows(0, 99820, 5000, 93016, 9999, 78927, 10000, 78824), 2, 100, most},
	} {
		if n, s, e := interpolate.Differ(table, x.u, x.distance); n != x.n || s != x.s || e != api.OK {
			t.Error(i, n, s, e)
		}
	}
	for _, distance := range []int{0, -1, most + 1, math.MinInt, math.MaxInt} {
		if n, s, e := interpolate.Differ(table, rows(0, 99820, most, 78924), distance); n != 0 || s != 0 || e != api.ErrRange {
			t.Error(distance, n, s, e)
		}
	}
}

// P18.1 to P18.3: a table that is not right comes before everything else.
func TestWrongTables(t *testing.T) {
	for _, table := range wrongTables() {
		before := slices.Clone(table)
		for _, n := range extremes {
			if d, e := interpolate.Density(table, n); d != 0 || e != api.ErrArg {
				t.Error(table, n, d, e)
			}
			if s, e := interpolate.Strength(table, n); s != 0 || e != api.ErrArg {
				t.Error(table, n, s, e)
			}
			if b, e := interpolate.Range(table, n); b != (api.Bounds{}) || e != api.ErrArg {
				t.Error(table, n, b, e)
			}
			if l, e := interpolate.Dense(table, n); len(l) != 0 || e != api.ErrArg {
				t.Error(table, n, l, e)
			}
			for _, other := range [][]api.Grade{table, example()} {
				if d, s, e := interpolate.Differ(table, other, n); d != 0 || s != 0 || e != api.ErrArg {
					t.Error(table, n, d, s, e)
				}
				if d, s, e := interpolate.Differ(other, table, n); d != 0 || s != 0 || e != api.ErrArg {
					t.Error(table, n, d, s, e)
				}
			}
		}
		if l, e := interpolate.Thin(table); len(l) != 0 || e != api.ErrArg {
			t.Error(table, l, e)
		}
		if !slices.Equal(table, before) {
			t.Error("changed", table)
		}
	}
}

// Arguments are not changed, nor is what lies behind them in the same memory; results share no memory.
func TestArgumentsStay(t *testing.T) {
	table := append(example(), api.Grade{Strength: 7, Density: 7})[:3]
	for i, do := range []func() []api.Grade{
		func() []api.Grade { r, _ := interpolate.Thin(table); return r },
		func() []api.Grade { r, _ := interpolate.Dense(table, 5000); return r },
	} {
		got := do()
		want := slices.Clone(got)
		// What is written into a result, or behind it, is nowhere else.
		_ = append(got, api.Grade{Strength: 9, Density: 9})
		clear(got)
		if again := do(); !slices.Equal(again, want) || len(want) == 0 {
			t.Error(i, again, want)
		}
	}
	interpolate.Density(table, 6000)
	interpolate.Strength(table, 90198)
	interpolate.Range(table, 90198)
	interpolate.Differ(table, table, 1)
	if !slices.Equal(table[:4], append(example(), api.Grade{Strength: 7, Density: 7})) {
		t.Error(table[:4])
	}
}

// P1: no function panics, for all arguments.
func TestNoPanic(t *testing.T) {
	for _, a := range extremes {
		for _, b := range extremes {
			for _, l := range [][]api.Grade{nil, rows(a, b), rows(0, 99820, a, b), rows(a, b, most, 78924), rows(0, a, most, b), rows(0, greatest, a, b, most, least), example()} {
				interpolate.Density(l, a)
				interpolate.Strength(l, a)
				interpolate.Range(l, a)
				interpolate.Thin(l)
				interpolate.Dense(l, a)
				interpolate.Differ(l, example(), a)
				interpolate.Differ(example(), l, a)
			}
		}
	}
}
