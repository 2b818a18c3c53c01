package alcohol_test

import (
	"math"
	"math/bits"
	"math/rand"
	"slices"
	"testing"

	"spile/alcohol"
	"spile/api"
	"spile/interpolate"
)

const (
	most     = api.MaxStrength
	least    = api.MinDensity
	greatest = api.MaxDensity
)

// extremes are numbers at and beyond all limits.
var extremes = []int{math.MinInt, math.MinInt + 1, -1, 0, 1, 2, most, most + 1, least - 1, greatest + 1, api.MaxVolume, api.MaxVolume + 1, api.MaxAlcohol, api.MaxAlcohol + 1, api.MaxMass, api.MaxMass + 1, 1 << 62, math.MaxInt - 1, math.MaxInt}

// rows returns rows with the strengths and the densities that follow one another.
func rows(l ...int) []api.Grade {
	var all []api.Grade
	for i := 0; i < len(l); i += 2 {
		all = append(all, api.Grade{Strength: l[i], Density: l[i+1]})
	}
	return all
}

// example is the table of the example of the document.
func example() []api.Grade {
	return rows(0, 99820, 5000, 93016, 10000, 78924)
}

// chance returns a right table with n rows by chance, with densities from a greatest to a least one.
func chance(r *rand.Rand, n, from, to int) []api.Grade {
	strengths := r.Perm(most - 1)[:n-2]
	slices.Sort(strengths)
	l := make([]api.Grade, n)
	for i := range l {
		l[i].Density = to + r.Intn(from-to+1)
		if i > 0 && i < n-1 {
			l[i].Strength = strengths[i-1] + 1
		}
	}
	l[n-1].Strength = most
	densities := make([]int, n)
	for i, g := range l {
		densities[i] = -g.Density
	}
	slices.Sort(densities)
	for i := range l {
		l[i].Density = -densities[i]
	}
	return l
}

// tables are tables that are right: with flat and steep parts, with the least and the greatest number of rows, and up to the limits.
func tables() [][]api.Grade {
	r := rand.New(rand.NewSource(201))
	return [][]api.Grade{
		example(),
		rows(0, greatest, most, least), rows(0, least, most, least), rows(0, greatest, most, greatest),
		rows(0, 99820, 1, 99820, 2, 99819, 9999, 80000, most, 80000), rows(0, greatest, 1, least, most, least), rows(0, greatest, 9999, greatest, most, least), rows(0, greatest, 4000, greatest, 4001, least, most, least),
		chance(r, 3, greatest, least), chance(r, 10, 99820, 78924), chance(r, 40, 99820, 78924), chance(r, api.MaxRows, greatest, least),
	}
}

// wrongTables are tables with a fault of each kind.
func wrongTables() [][]api.Grade {
	return [][]api.Grade{
		nil, rows(0, 99820), make([]api.Grade, api.MaxRows+1), rows(0, 99820, most, 99821), rows(0, 99820, 5000, 90000, 5000, 90000, most, 80000), rows(1, 99820, most, 78924), rows(0, 99820, 9999, 78924),
		rows(-1, 99820, most, 78924), rows(0, 99820, most+1, 78924), rows(0, greatest+1, most, 78924), rows(0, 99820, most, least-1), rows(most, 78924, 0, 99820),
	}
}

// densities returns the densities of a table at all strengths.
func densities(t *testing.T, table []api.Grade) []int {
	t.Helper()
	all := make([]int, most+1)
	for s := range all {
		d, e := interpolate.Density(table, s)
		if e != api.OK {
			t.Fatal(table, s, e)
		}
		all[s] = d
	}
	return all
}

// compare compares the product of two numbers with that of two others; none is negative.
func compare(a, b, c, d int) int {
	high, low := bits.Mul64(uint64(a), uint64(b))
	otherHigh, otherLow := bits.Mul64(uint64(c), uint64(d))
	return slices.Compare([]uint64{high, low}, []uint64{otherHigh, otherLow})
}

// strength returns the strength of a liquid by the definition, from all densities.
func strength(all []int, l api.Liquid) int {
	if l.Mass == 0 {
		return 0
	}
	for s := most; s > 0; s-- {
		if compare(l.Alcohol, all[s], l.Mass, s) >= 0 {
			return s
		}
	}
	return 0
}

// fullest returns the greatest alcohol of a liquid with a mass.
func fullest(all []int, mass int) int {
	high, low := bits.Mul64(uint64(mass), most)
	q, _ := bits.Div64(high, low, uint64(all[most]))
	return min(int(q), api.MaxAlcohol)
}

// masses are masses up to the limit, and those near the density of something.
var masses = []int{1, 2, 3, 9999, 10000, 49999, 50000, 50001, 78923, 78924, 78925, 99820, 119999, 120000, 1 << 20, 94377000, 100000000, 1<<40 + 12345, api.MaxMass / 3, api.MaxMass - 1, api.MaxMass}

// liquids returns liquids that are right, by all densities of a table.
func liquids(r *rand.Rand, all []int) []api.Liquid {
	l := []api.Liquid{{}}
	for _, mass := range masses {
		top := fullest(all, mass)
		for _, n := range []int{0, 1, 2, top / 3, top / 2, top - 1, top, r.Intn(top + 1), r.Intn(top + 1)} {
			l = append(l, api.Liquid{Alcohol: min(max(n, 0), top), Mass: mass})
		}
	}
	return l
}

// P20.1: the example of the document, and liquids with too much alcohol by one.
func TestCheckExamples(t *testing.T) {
	for _, x := range []struct {
		l api.Liquid
		e api.Errno
	}{
		{api.Liquid{}, api.OK}, {api.Liquid{Alcohol: 4000000, Mass: 94377000}, api.OK}, {api.Liquid{Alcohol: 4000000, Mass: 100000000}, api.OK},
		// At the greatest strength 78924 of mass have 10000 of alcohol.
		{api.Liquid{Alcohol: 10000, Mass: 78924}, api.OK}, {api.Liquid{Alcohol: 10001, Mass: 78924}, api.ErrMismatch}, {api.Liquid{Alcohol: 10000, Mass: 78923}, api.ErrMismatch}, {api.Liquid{Alcohol: 10000, Mass: 78925}, api.OK},
		{api.Liquid{Alcohol: 1, Mass: 8}, api.OK}, {api.Liquid{Alcohol: 1, Mass: 7}, api.ErrMismatch}, {api.Liquid{Alcohol: 0, Mass: 1}, api.OK}, {api.Liquid{Alcohol: 1, Mass: 0}, api.ErrMismatch}, {api.Liquid{Alcohol: 1, Mass: 1}, api.ErrMismatch},
		{api.Liquid{Alcohol: api.MaxAlcohol, Mass: api.MaxMass}, api.OK}, {api.Liquid{Alcohol: 0, Mass: api.MaxMass}, api.OK}, {api.Liquid{Alcohol: api.MaxAlcohol}, api.ErrMismatch}, {api.Liquid{Alcohol: api.MaxAlcohol, Mass: 78924 * api.MaxVolume}, api.OK}, {api.Liquid{Alcohol: api.MaxAlcohol, Mass: 78924*api.MaxVolume - 1}, api.ErrMismatch},
		{api.Liquid{Alcohol: -1, Mass: 0}, api.ErrRange}, {api.Liquid{Alcohol: -1, Mass: 100}, api.ErrRange}, {api.Liquid{Alcohol: 0, Mass: -1}, api.ErrRange}, {api.Liquid{Alcohol: 0, Mass: api.MaxMass + 1}, api.ErrRange}, {api.Liquid{Alcohol: 5, Mass: api.MaxMass + 1}, api.ErrRange},
		// Out of range comes before too much alcohol.
		{api.Liquid{Alcohol: api.MaxAlcohol + 1}, api.ErrRange}, {api.Liquid{Alcohol: api.MaxAlcohol + 1, Mass: api.MaxMass}, api.ErrRange}, {api.Liquid{Alcohol: 5, Mass: -1}, api.ErrRange},
		{api.Liquid{Alcohol: math.MaxInt, Mass: math.MaxInt}, api.ErrRange}, {api.Liquid{Alcohol: math.MinInt, Mass: math.MinInt}, api.ErrRange}, {api.Liquid{Alcohol: 0, Mass: math.MinInt}, api.ErrRange}, {api.Liquid{Alcohol: math.MinInt, Mass: 0}, api.ErrRange}, {api.Liquid{Alcohol: 1, Mass: math.MaxInt}, api.ErrRange}, {api.Liquid{Alcohol: math.MaxInt, Mass: 1}, api.ErrRange},
	} {
		if e := alcohol.Check(example(), x.l); e != x.e {
			t.Error(x, e)
		}
	}
}

// P20.1: masses of all kinds, with the greatest alcohol that they can have, and one more.
func TestCheck(t *testing.T) {
	for _, table := range tables() {
		all := densities(t, table)
		for _, mass := range append(masses, 0) {
			top := fullest(all, mass)
			for _, n := range []int{0, top, top + 1, top + 2, api.MaxAlcohol, api.MaxAlcohol + 1} {
				want := api.OK
				if n > api.MaxAlcohol {
					want = api.ErrRange
				} else if compare(n, all[most], mass, most) > 0 {
					want = api.ErrMismatch
				}
				if e := alcohol.Check(table, api.Liquid{Alcohol: n, Mass: mass}); e != want {
					t.Error(table, n, mass, e, want)
				}
			}
		}
	}
}

// volumes are volumes of all kinds.
var volumes = []int{0, 1, 2, 3, 700, 1000, 123456789, api.MaxVolume - 1, api.MaxVolume}

// P20.1 and P20.3: all strengths, with volumes of all kinds; a liquid has the volume and the strength of which it is, and shows all of its alcohol.
func TestOf(t *testing.T) {
	for i, table := range tables() {
		before := slices.Clone(table)
		all := densities(t, table)
		for s := 0; s <= most; s++ {
			for _, v := range volumes {
				l, e := alcohol.Of(table, v, s)
				if l != (api.Liquid{Alcohol: v * s, Mass: v * all[s]}) || e != api.OK {
					t.Fatal(table, v, s, l, e)
				}
				if e := alcohol.Check(table, l); e != api.OK {
					t.Fatal(table, v, s, l, e)
				}
				if v == 0 {
					continue
				}
				strength, e := alcohol.Strength(table, l)
				volume, f := alcohol.Volume(table, l)
				lost, g := alcohol.Lost(table, l)
				if strength != s || volume != v || lost != 0 || e != api.OK || f != api.OK || g != api.OK {
					t.Fatal(table, v, s, strength, volume, lost, e, f, g)
				}
			}
			if i > 0 && s > 20 && s < most-20 {
				s += 96
			}
		}
		if !slices.Equal(table, before) {
			t.Error("changed", table)
		}
	}
}

// P20.1: volumes and strengths that are out of range.
func TestOfRange(t *testing.T) {
	for _, v := range extremes {
		for _, s := range extremes {
			l, e := alcohol.Of(example(), v, s)
			if v >= 0 && v <= api.MaxVolume && s >= 0 && s <= most {
				if e != api.OK || l.Alcohol != v*s {
					t.Error(v, s, l, e)
				}
			} else if l != (api.Liquid{}) || e != api.ErrRange {
				t.Error(v, s, l, e)
			}
		}
	}
}

// P20.2: the examples of the document, and liquids of which a part does not show.
func TestExamples(t *testing.T) {
	if l, e := alcohol.Of(example(), 1000, 4000); l != (api.Liquid{Alcohol: 4000000, Mass: 94377000}) || e != api.OK {
		t.Error(l, e)
	}
	for _, x := range []struct {
		l                    api.Liquid
		s, v, lost, of, mass int
	}{
		{api.Liquid{Alcohol: 4000000, Mass: 94377000}, 4000, 1000, 0, 1000, 94377000}, {api.Liquid{Alcohol: 4000000, Mass: 100000000}, 3786, 1056, 1984, 1, 94668},
		{api.Liquid{}, 0, 0, 0, 0, 0}, {api.Liquid{Mass: 1}, 0, 0, 0, 0, 0}, {api.Liquid{Mass: 99819}, 0, 0, 0, 0, 0}, {api.Liquid{Mass: 99820}, 0, 1, 0, 1, 99820}, {api.Liquid{Mass: 199639}, 0, 1, 0, 1, 99820},
		{api.Liquid{Alcohol: 10000, Mass: 78924}, most, 1, 0, 1, 78924}, {api.Liquid{Alcohol: 9999, Mass: 78924}, 9999, 0, 9999, 0, 0}, {api.Liquid{Alcohol: 1, Mass: 8}, 9900, 0, 1, 0, 0},
		{api.Liquid{Alcohol: api.MaxAlcohol, Mass: 78924 * api.MaxVolume}, most, api.MaxVolume, 0, api.MaxVolume, 78924 * api.MaxVolume}, {api.Liquid{Mass: api.MaxMass}, 0, 1290813653, 0, api.MaxVolume, 99820 * api.MaxVolume},
	} {
		s, e := alcohol.Strength(example(), x.l)
		v, f := alcohol.Volume(example(), x.l)
		lost, g := alcohol.Lost(example(), x.l)
		mass, h := alcohol.Mass(example(), x.l, x.of)
		if s != x.s || v != x.v || lost != x.lost || mass != x.mass || e != api.OK || f != api.OK || g != api.OK || h != api.OK {
			t.Error(x, s, v, lost, mass, e, f, g, h)
		}
	}
}

// P20.2 and P20.3: liquids of all kinds, against the definition.
func TestLiquids(t *testing.T) {
	r := rand.New(rand.NewSource(202))
	for _, table := range tables() {
		before := slices.Clone(table)
		all := densities(t, table)
		for _, l := range liquids(r, all) {
			want := strength(all, l)
			s, e := alcohol.Strength(table, l)
			if s != want || e != api.OK {
				t.Fatal(table, l, s, e, want)
			}
			v, e := alcohol.Volume(table, l)
			if v != l.Mass/all[want] || e != api.OK {
				t.Fatal(table, l, v, e)
			}
			lost, e := alcohol.Lost(table, l)
			if lost != l.Alcohol-v*s || lost < 0 || e != api.OK {
				t.Fatal(table, l, lost, e)
			}
			for _, n := range []int{0, 1, v / 2, v - 1, v, v + 1, v + 2, -1, api.MaxVolume, api.MaxVolume + 1, math.MinInt, math.MaxInt} {
				want, e := n*all[want], api.OK
				switch {
				case n < 0 || n > api.MaxVolume:
					want, e = 0, api.ErrRange
				case n > v:
					want, e = 0, api.ErrShort
				}
				if mass, f := alcohol.Mass(table, l, n); mass != want || f != e || mass > l.Mass {
					t.Fatal(table, l, n, mass, f)
				}
			}
		}
		if !slices.Equal(table, before) {
			t.Error("changed", table)
		}
	}
}

// P20.2: all liquids with a small mass, by tables whose densities change at once, against the definition.
func TestSmallLiquids(t *testing.T) {
	for _, table := range [][]api.Grade{example(), rows(0, greatest, 1, least, most, least), rows(0, greatest, 9999, greatest, most, least)} {
		all := densities(t, table)
		for mass := range 90 {
			for n := range 20 {
				l := api.Liquid{Alcohol: n, Mass: mass}
				want, e := strength(all, l), api.OK
				if compare(n, all[most], mass, most) > 0 {
					want, e = 0, api.ErrArg
				}
				if s, f := alcohol.Strength(table, l); s != want || f != e {
					t.Fatal(table, l, s, f, want)
				}
			}
		}
	}
}

// P20.3: more alcohol never gives a lesser strength, more mass never a greater one; what is twice as much has the same strength and twice the volume, or one more.
func TestOrder(t *testing.T) {
	r := rand.New(rand.NewSource(203))
	for _, table := range tables() {
		all := densities(t, table)
		for _, l := range liquids(r, all) {
			s, _ := alcohol.Strength(table, l)
			v, _ := alcohol.Volume(table, l)
			for _, more := range []int{1, 2, l.Alcohol, r.Intn(1000), r.Intn(1 << 40)} {
				if n, e := alcohol.Strength(table, api.Liquid{Alcohol: l.Alcohol + more, Mass: l.Mass}); e == api.OK && n < s {
					t.Fatal(table, l, more, n, s)
				}
				if n, e := alcohol.Strength(table, api.Liquid{Alcohol: l.Alcohol, Mass: l.Mass + more}); e == api.OK && n > s {
					t.Fatal(table, l, more, n, s)
				}
			}
			twice := api.Liquid{Alcohol: 2 * l.Alcohol, Mass: 2 * l.Mass}
			n, e := alcohol.Strength(table, twice)
			w, f := alcohol.Volume(table, twice)
			if twice.Alcohol > api.MaxAlcohol || twice.Mass > api.MaxMass {
				if n != 0 || w != 0 || e != api.ErrArg || f != api.ErrArg {
					t.Fatal(table, l, n, w, e, f)
				}
				continue
			}
			if n != s || w < 2*v || w > 2*v+1 || e != api.OK || f != api.OK {
				t.Fatal(table, l, n, w, e, f)
			}
		}
	}
}

// refuse checks that nothing is computed of a table and a liquid.
func refuse(t *testing.T, table []api.Grade, l api.Liquid) {
	t.Helper()
	if s, e := alcohol.Strength(table, l); s != 0 || e != api.ErrArg {
		t.Error(table, l, s, e)
	}
	if v, e := alcohol.Volume(table, l); v != 0 || e != api.ErrArg {
		t.Error(table, l, v, e)
	}
	if n, e := alcohol.Lost(table, l); n != 0 || e != api.ErrArg {
		t.Error(table, l, n, e)
	}
	// A wrong liquid comes before a volume that is out of range, or too great.
	for _, n := range append(extremes, 1000) {
		if mass, e := alcohol.Mass(table, l, n); mass != 0 || e != api.ErrArg {
			t.Error(table, l, n, mass, e)
		}
	}
}

// P20.1 and P20.2: a table that is not right comes before everything else.
func TestWrongTables(t *testing.T) {
	for _, table := range wrongTables() {
		before := slices.Clone(table)
		for _, a := range extremes {
			for _, b := range extremes {
				l := api.Liquid{Alcohol: a, Mass: b}
				if e := alcohol.Check(table, l); e != api.ErrArg {
					t.Error(table, l, e)
				}
				if l, e := alcohol.Of(table, a, b); l != (api.Liquid{}) || e != api.ErrArg {
					t.Error(table, a, b, l, e)
				}
			}
		}
		refuse(t, table, api.Liquid{})
		refuse(t, table, api.Liquid{Alcohol: 4000000, Mass: 94377000})
		if !slices.Equal(table, before) {
			t.Error("changed", table)
		}
	}
}

// P20.2: liquids that are not right.
func TestWrongLiquids(t *testing.T) {
	for _, table := range tables() {
		for _, a := range extremes {
			for _, b := range extremes {
				if l := (api.Liquid{Alcohol: a, Mass: b}); alcohol.Check(table, l) != api.OK {
					refuse(t, table, l)
				}
			}
		}
	}
	refuse(t, example(), api.Liquid{Alcohol: 10001, Mass: 78924})
	refuse(t, example(), api.Liquid{Alcohol: 1})
	refuse(t, example(), api.Liquid{Mass: -1})
}

// Arguments are not changed, nor is what lies behind them in the same memory.
func TestArgumentsStay(t *testing.T) {
	table := append(example(), api.Grade{Strength: 7, Density: 7})[:3]
	l := api.Liquid{Alcohol: 4000000, Mass: 94377000}
	alcohol.Check(table, l)
	alcohol.Of(table, 1000, 4000)
	alcohol.Strength(table, l)
	alcohol.Volume(table, l)
	alcohol.Mass(table, l, 10)
	alcohol.Lost(table, l)
	if !slices.Equal(table[:4], append(example(), api.Grade{Strength: 7, Density: 7})) {
		t.Error(table[:4])
	}
}

// P1: no function panics, for all arguments.
func TestNoPanic(t *testing.T) {
	for _, a := range extremes {
		for _, b := range extremes {
			l := api.Liquid{Alcohol: a, Mass: b}
			for _, table := range [][]api.Grade{nil, rows(a, b), rows(0, 99820, a, b), rows(a, b, most, 78924), rows(0, greatest, a, b, most, least), example()} {
				alcohol.Check(table, l)
				alcohol.Of(table, a, b)
				alcohol.Strength(table, l)
				alcohol.Volume(table, l)
				alcohol.Mass(table, l, a)
				alcohol.Mass(table, l, b)
				alcohol.Lost(table, l)
			}
		}
	}
}
