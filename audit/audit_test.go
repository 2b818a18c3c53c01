package audit_test

import (
	"math"
	"math/rand"
	"slices"
	"testing"

	"spile/api"
	"spile/audit"
	"spile/density"
)

const (
	most     = api.MaxStrength
	least    = api.MinDensity
	greatest = api.MaxDensity
	mostRows = api.MaxRows
)

// extremes are numbers at and beyond all limits.
var extremes = []int{math.MinInt, -1, 0, 1, 127, 128, 129, most - 1, most, most + 1, least - 1, least, greatest - 1, greatest, greatest + 1, math.MaxInt}

// rows returns rows with the strengths and the densities that follow one another.
func rows(l ...int) []api.Grade {
	var all []api.Grade
	for i := 0; i < len(l); i += 2 {
		all = append(all, api.Grade{Strength: l[i], Density: l[i+1]})
	}
	return all
}

// clashes returns pairs of the indices that follow one another.
func clashes(l ...int) []api.Clash {
	var all []api.Clash
	for i := 0; i < len(l); i += 2 {
		all = append(all, api.Clash{First: l[i], Second: l[i+1]})
	}
	return all
}

// example are the rows of the example of the document.
func example() []api.Grade {
	return rows(0, 90100, 10, 90090, 10, 90093, 20, 90095, 30, 90080)
}

// chance returns rows of some number, with strengths below a number and densities of a few different values, always the same ones.
func chance(r *rand.Rand, n, strengths, densities int) []api.Grade {
	l := make([]api.Grade, n)
	for i := range l {
		l[i] = api.Grade{Strength: r.Intn(strengths), Density: 90000 + r.Intn(densities)}
	}
	slices.SortStableFunc(l, func(a, b api.Grade) int { return a.Strength - b.Strength })
	return l
}

// small calls a function with all right rows up to a number, with few strengths and few densities.
func small(n, strengths, densities int, do func(l []api.Grade)) {
	var extend func(l []api.Grade)
	extend = func(l []api.Grade) {
		if len(l) > 0 {
			do(l)
		}
		if len(l) == n {
			return
		}
		from := 0
		if len(l) > 0 {
			from = l[len(l)-1].Strength
		}
		for s := from; s < strengths; s++ {
			for d := range densities {
				extend(append(slices.Clone(l), api.Grade{Strength: s, Density: 90000 + d}))
			}
		}
	}
	extend(nil)
}

// many are right rows of all sizes: with few and many strengths and densities, and at the limits.
func many() [][]api.Grade {
	r := rand.New(rand.NewSource(17))
	all := [][]api.Grade{
		example(), rows(0, least), rows(most, greatest), rows(0, least, most, greatest), rows(0, greatest, most, least),
		rows(5, least, 5, greatest), rows(5, greatest, 5, least), rows(5, least, 5, greatest, 5, least, 6, greatest),
	}
	for _, n := range []int{2, 3, 7, 20, mostRows - 1, mostRows} {
		for _, strengths := range []int{1, 2, 10, most + 1} {
			for _, densities := range []int{1, 2, 10, 30000} {
				all = append(all, chance(r, n, strengths, densities))
			}
		}
	}
	up, down := make([]api.Grade, mostRows), make([]api.Grade, mostRows)
	for i := range mostRows {
		up[i] = api.Grade{Strength: i, Density: least + i}
		down[i] = api.Grade{Strength: i, Density: greatest - i}
	}
	return append(all, up, down)
}

// wrong are rows with the index and the error of their first fault.
type wrong struct {
	l     []api.Grade
	index int
	e     api.Errno
}

// wrongRows are rows with faults of each kind, and with several ones.
func wrongRows() []wrong {
	all := []wrong{
		{nil, -1, api.ErrEmpty}, {[]api.Grade{}, -1, api.ErrEmpty},
		{make([]api.Grade, mostRows+1), -1, api.ErrTooLarge}, {slices.Repeat(example()[:1], mostRows+1), -1, api.ErrTooLarge},
		{rows(0, 0), 0, api.ErrRange}, {rows(10, 90000, 9, 90000), 1, api.ErrOrder}, {rows(10, 90000, 9, 80000), 1, api.ErrOrder},
		{rows(0, 90000, 10, 90000, 5, 90000), 2, api.ErrOrder}, {rows(most, 90000, 0, 90000), 1, api.ErrOrder},
		{slices.Concat(slices.Repeat(rows(5, 90000), mostRows-1), rows(4, 90000)), mostRows - 1, api.ErrOrder},
		// What is out of range comes before the order of the same row, and the first row with a fault before all.
		{rows(10, 90000, -1, 90000), 1, api.ErrRange}, {rows(10, 90000, 9, greatest+1), 1, api.ErrRange},
		{rows(10, 90000, 9, 90000, -1, 90000), 1, api.ErrOrder}, {rows(10, 90000, most+1, 90000, 9, 90000), 1, api.ErrRange},
		{rows(10, 90000, 9, 90000, 8, 90000), 1, api.ErrOrder}, {rows(10, 90000, 10, 0, 9, 90000), 1, api.ErrRange},
	}
	for _, n := range []int{-1, most + 1, math.MinInt, math.MaxInt} {
		all = append(all, wrong{rows(n, 90000), 0, api.ErrRange}, wrong{rows(0, 90000, n, 90000), 1, api.ErrRange})
	}
	for _, n := range []int{least - 1, greatest + 1, 0, -1, math.MinInt, math.MaxInt} {
		all = append(all, wrong{rows(0, n), 0, api.ErrRange}, wrong{rows(0, 90000, 1, 90000, 1, n), 2, api.ErrRange})
	}
	return all
}

// P17.1: right rows, and the first fault of wrong ones, with its index.
func TestCheck(t *testing.T) {
	for _, l := range many() {
		before := slices.Clone(l)
		if i, e := audit.Check(l); i != -1 || e != api.OK {
			t.Error(l, i, e)
		}
		if !slices.Equal(l, before) {
			t.Error("changed", l)
		}
	}
	for _, x := range wrongRows() {
		before := slices.Clone(x.l)
		if i, e := audit.Check(x.l); i != x.index || e != x.e {
			t.Error(x, i, e)
		}
		if !slices.Equal(x.l, before) {
			t.Error("changed", x)
		}
	}
}

// fault returns the first fault of rows by the definition.
func fault(l []api.Grade) (int, api.Errno) {
	if len(l) == 0 {
		return -1, api.ErrEmpty
	}
	before := math.MinInt
	for i, g := range l {
		if g.Strength < 0 || g.Strength > most || g.Density < least || g.Density > greatest {
			return i, api.ErrRange
		}
		if g.Strength < before {
			return i, api.ErrOrder
		}
		before = g.Strength
	}
	return -1, api.OK
}

// P17.1: all lists of up to 4 rows with few numbers, against the definition.
func TestCheckSmall(t *testing.T) {
	var all []api.Grade
	for _, strength := range []int{-1, 0, 1, most, most + 1} {
		for _, d := range []int{least - 1, least, greatest} {
			all = append(all, api.Grade{Strength: strength, Density: d})
		}
	}
	var check func(l []api.Grade)
	check = func(l []api.Grade) {
		index, want := fault(l)
		if i, e := audit.Check(l); i != index || e != want {
			t.Fatal(l, i, e)
		}
		if len(l) == 4 {
			return
		}
		for _, g := range all {
			check(append(slices.Clone(l), g))
		}
	}
	check(nil)
}

// P17.1 to P17.3: rows that are not right come before everything else.
func TestWrongRows(t *testing.T) {
	for _, x := range wrongRows() {
		for _, n := range extremes {
			if l, e := audit.Clashes(x.l, n); len(l) != 0 || e != api.ErrArg {
				t.Error(x, n, l, e)
			}
		}
		if l, e := audit.Largest(x.l); len(l) != 0 || e != api.ErrArg {
			t.Error(x, l, e)
		}
		if l, n, e := audit.Repair(x.l); len(l) != 0 || n != 0 || e != api.ErrArg {
			t.Error(x, l, n, e)
		}
		if n, e := audit.Least(x.l); n != 0 || e != api.ErrArg {
			t.Error(x, n, e)
		}
		if l, e := audit.Table(x.l); len(l) != 0 || e != api.ErrArg {
			t.Error(x, l, e)
		}
	}
}

// P17.1 and P17.2: the example of the document.
func TestExample(t *testing.T) {
	l := example()
	for tolerance, want := range map[int][]api.Clash{0: clashes(1, 2, 1, 3, 2, 3), 1: clashes(1, 2, 1, 3, 2, 3), 2: clashes(1, 2, 1, 3), 3: clashes(1, 3), 4: clashes(1, 3), 5: nil, greatest: nil} {
		if got, e := audit.Clashes(l, tolerance); !slices.Equal(got, want) || e != api.OK {
			t.Error(tolerance, got, e)
		}
	}
	if n, e := audit.Least(l); n != 5 || e != api.OK {
		t.Error(n, e)
	}
	if choice, e := audit.Largest(l); !slices.Equal(choice, []int{0, 1, 4}) || e != api.OK {
		t.Error(choice, e)
	}
	got, change, e := audit.Repair(l)
	if !slices.Equal(got, rows(0, 90100, 10, 90092, 10, 90092, 20, 90092, 30, 90080)) || change != 3 || e != api.OK {
		t.Error(got, change, e)
	}
	if got, e := audit.Table(l); len(got) != 0 || e != api.ErrConflict {
		t.Error(got, e)
	}
}

// contradict reports by the definition whether two rows, of which the first one stands before, contradict each other.
func contradict(a, b api.Grade, tolerance int) bool {
	if a.Strength == b.Strength {
		return a.Density-b.Density > tolerance || b.Density-a.Density > tolerance
	}
	return b.Strength > a.Strength && b.Density > a.Density+tolerance
}

// pairs returns the pairs that contradict each other by the definition.
func pairs(l []api.Grade, tolerance int) []api.Clash {
	var all []api.Clash
	for k := range l {
		for m := range l {
			if k < m && contradict(l[k], l[m], tolerance) {
				all = append(all, api.Clash{First: k, Second: m})
			}
		}
	}
	return all
}

// P17.1: all rows of small numbers, and rows of all sizes, with all tolerances that matter.
func TestClashes(t *testing.T) {
	check := func(l []api.Grade, tolerance int) {
		before := slices.Clone(l)
		if got, e := audit.Clashes(l, tolerance); !slices.Equal(got, pairs(l, tolerance)) || e != api.OK {
			t.Fatal(l, tolerance, got, e)
		}
		if !slices.Equal(l, before) {
			t.Fatal("changed", l)
		}
	}
	small(4, 3, 4, func(l []api.Grade) {
		for tolerance := range 5 {
			check(l, tolerance)
		}
	})
	for _, l := range many() {
		for _, tolerance := range []int{0, 1, 2, 5, 9, 127, 10000, 29999, greatest - least - 1, greatest - least, greatest} {
			check(l, tolerance)
		}
	}
}

// P17.1: tolerances that are out of range.
func TestTolerances(t *testing.T) {
	for _, n := range []int{-1, greatest + 1, math.MinInt, math.MaxInt} {
		for _, l := range many() {
			if got, e := audit.Clashes(l, n); len(got) != 0 || e != api.ErrRange {
				t.Error(n, got, e)
			}
		}
	}
}

// tolerated reports whether no rows contradict each other with a tolerance.
func tolerated(l []api.Grade, tolerance int) bool {
	return len(pairs(l, tolerance)) == 0
}

// P17.1: with the least tolerance no rows contradict each other, and with one less some do.
func TestLeast(t *testing.T) {
	check := func(l []api.Grade) {
		n, e := audit.Least(l)
		if e != api.OK || n < 0 || !tolerated(l, n) || n > 0 && tolerated(l, n-1) {
			t.Fatal(l, n, e)
		}
	}
	small(4, 3, 4, check)
	for _, l := range many() {
		check(l)
	}
	for i, x := range []struct {
		l    []api.Grade
		want int
	}{
		{rows(0, least, most, greatest), greatest - least}, {rows(7, least, 7, greatest), greatest - least}, {rows(7, greatest, 7, least), greatest - least},
		{rows(0, greatest, most, least), 0}, {rows(7, 90000, 7, 90000), 0}, {rows(0, 90000, 1, 90001), 1}, {rows(0, 90001, 0, 90000), 1}, {rows(3, 90000), 0},
	} {
		if n, e := audit.Least(x.l); n != x.want || e != api.OK {
			t.Error(i, n, e)
		}
	}
}

// chosen returns the largest choice by the definition, asking all choices.
func chosen(l []api.Grade) []int {
	var best []int
	for set := range 1 << len(l) {
		var choice []int
		for i := range l {
			if set>>i&1 == 1 && !slices.ContainsFunc(choice, func(k int) bool { return contradict(l[k], l[i], 0) }) {
				choice = append(choice, i)
			}
		}
		if len(choice) > len(best) || len(choice) == len(best) && slices.Compare(choice, best) < 0 {
			best = choice
		}
	}
	return best
}

// P17.2 and P17.4: all rows of small numbers, and longer ones, against all choices.
func TestLargestOfAll(t *testing.T) {
	check := func(l []api.Grade) {
		before := slices.Clone(l)
		if got, e := audit.Largest(l); !slices.Equal(got, chosen(l)) || e != api.OK {
			t.Fatal(l, got, e)
		}
		if !slices.Equal(l, before) {
			t.Fatal("changed", l)
		}
	}
	small(4, 3, 4, check)
	small(5, 3, 2, check)
	r := rand.New(rand.NewSource(172))
	for i := range 300 {
		check(chance(r, 6+i%6, 1+i%9, 1+i%13))
	}
}

// longest returns for each row how many rows the largest choice that starts with it has, by a search that remembers.
func longest(l []api.Grade) []int {
	known := make([]int, len(l))
	var from func(i int) int
	from = func(i int) int {
		if known[i] == 0 {
			known[i] = 1
			for k := i + 1; k < len(l); k++ {
				if !contradict(l[i], l[k], 0) {
					known[i] = max(known[i], 1+from(k))
				}
			}
		}
		return known[i]
	}
	for i := range l {
		from(i)
	}
	return known
}

// P17.2 and P17.4: rows of all sizes: as many as possible, and the first ones of these; none contradict each other.
func TestLargest(t *testing.T) {
	for _, l := range many() {
		got, e := audit.Largest(l)
		known := longest(l)
		if e != api.OK || len(got) != slices.Max(known) {
			t.Fatal(l, got, e)
		}
		for n, i := range got {
			for _, k := range got[:n] {
				if k >= i || contradict(l[k], l[i], 0) {
					t.Fatal(l, got)
				}
			}
			// No row before could have taken this place.
			for k := range i {
				if known[k] == len(got)-n && (n == 0 || k > got[n-1] && !contradict(l[got[n-1]], l[k], 0)) {
					t.Fatal(l, got, n, k)
				}
			}
		}
	}
}

// P17.2: equal rows, rows that are all right, and rows that all contradict each other, up to the limit.
func TestLargestExamples(t *testing.T) {
	all := make([]int, mostRows)
	for i := range all {
		all[i] = i
	}
	up, down := many()[len(many())-2], many()[len(many())-1]
	for i, x := range []struct {
		l    []api.Grade
		want []int
	}{
		{rows(5, 90000), []int{0}}, {rows(5, 90000, 5, 90001), []int{0}}, {rows(5, 90001, 5, 90000), []int{0}}, {rows(5, 90000, 6, 90001), []int{0}},
		{rows(5, 90000, 5, 90001, 5, 90000), []int{0, 2}}, {rows(5, 90000, 5, 90001, 5, 90001, 5, 90000), []int{0, 3}},
		{rows(0, 90000, 1, 90005, 2, 90004, 3, 90003), []int{1, 2, 3}}, {rows(0, 90005, 1, 90000, 1, 90003, 2, 90002), []int{0, 2, 3}},
		{rows(0, 90003, 1, 90002, 1, 90001, 2, 90001), []int{0, 1, 3}},
		{up, []int{0}}, {down, all}, {slices.Repeat(rows(5, 90000), mostRows), all},
	} {
		if got, e := audit.Largest(x.l); !slices.Equal(got, x.want) || e != api.OK {
			t.Error(i, got, e)
		}
	}
}

// repaired returns the repaired rows and the change by the definition.
func repaired(l []api.Grade) ([]api.Grade, int) {
	all, change := slices.Clone(l), 0
	for i, g := range l {
		high, low := 0, math.MaxInt
		for _, other := range l {
			if other.Strength >= g.Strength && other.Density > high {
				high = other.Density
			}
			if other.Strength <= g.Strength && other.Density < low {
				low = other.Density
			}
		}
		all[i].Density = (high + low) / 2
		change = max(change, max(all[i].Density-g.Density, g.Density-all[i].Density))
	}
	return all, change
}

// P17.2 and P17.4: repaired rows are those of the definition, do not contradict each other, and change by a half of the least tolerance, rounded up.
func TestRepair(t *testing.T) {
	check := func(l []api.Grade) {
		before := slices.Clone(l)
		want, most := repaired(l)
		got, change, e := audit.Repair(l)
		if !slices.Equal(got, want) || change != most || e != api.OK {
			t.Fatal(l, got, change, e)
		}
		if n, _ := audit.Least(l); !tolerated(got, 0) || change != (n+1)/2 {
			t.Fatal(l, got, change, n)
		}
		if !slices.Equal(l, before) {
			t.Fatal("changed", l)
		}
		if again, none, e := audit.Repair(got); !slices.Equal(again, got) || none != 0 || e != api.OK {
			t.Fatal(l, got, again)
		}
	}
	small(4, 3, 4, check)
	for _, l := range many() {
		check(l)
	}
}

// smallest returns the least change by which rows become such as do not contradict each other, asking all densities near.
func smallest(l []api.Grade) int {
	best := math.MaxInt
	var ask func(done []api.Grade, change int)
	ask = func(done []api.Grade, change int) {
		if change >= best || !tolerated(done, 0) {
			return
		}
		if len(done) == len(l) {
			best = change
			return
		}
		g := l[len(done)]
		for d := -5; d <= 5; d++ {
			ask(append(slices.Clone(done), api.Grade{Strength: g.Strength, Density: g.Density + d}), max(change, d, -d))
		}
	}
	ask(nil, 0)
	return best
}

// P17.4: no other densities have a lesser change than the repaired ones.
func TestRepairLeast(t *testing.T) {
	small(3, 3, 5, func(l []api.Grade) {
		if _, change, e := audit.Repair(l); change != smallest(l) || e != api.OK {
			t.Fatal(l, change, e)
		}
	})
	r := rand.New(rand.NewSource(174))
	for range 100 {
		l := chance(r, 5, 4, 6)
		if _, change, e := audit.Repair(l); change != smallest(l) || e != api.OK {
			t.Fatal(l, change, e)
		}
	}
}

// P17.3: tables of rows, with equal rows and without, and rows that give no table.
func TestTable(t *testing.T) {
	full := rows(0, 99820)
	for i := 1; i < mostRows-1; i++ {
		full = append(full, api.Grade{Strength: i, Density: 99820 - i})
	}
	full = append(full, api.Grade{Strength: most, Density: 78924})
	for i, x := range []struct {
		l, want []api.Grade
		e       api.Errno
	}{
		{rows(0, 99820, most, 78924), rows(0, 99820, most, 78924), api.OK},
		{rows(0, 99820, 0, 99820, 5000, 93016, 5000, 93016, 5000, 93016, most, 78924, most, 78924), rows(0, 99820, 5000, 93016, most, 78924), api.OK},
		// Equal densities of different strengths all stay.
		{rows(0, 90000, 5000, 90000, 5000, 90000, most, 90000), rows(0, 90000, 5000, 90000, most, 90000), api.OK},
		{rows(0, greatest, most, least), rows(0, greatest, most, least), api.OK},
		{full, full, api.OK},
		{slices.Concat(slices.Repeat(rows(0, 99820), mostRows-1), rows(most, 99820)), rows(0, 99820, most, 99820), api.OK},
		{rows(0, 99820, 5000, 99821, most, 78924), nil, api.ErrConflict},
		{rows(0, 99820, 5000, 93016, 5000, 93017, most, 78924), nil, api.ErrConflict},
		{rows(0, 99820, 5000, 93017, 5000, 93016, most, 78924), nil, api.ErrConflict},
		{rows(0, 99820, 5000, 93016, most, 99820, most, 93015), nil, api.ErrConflict},
		// Contradictions come before the faults of the table.
		{rows(1, 90000, 2, 90001), nil, api.ErrConflict}, {rows(0, 90000, 0, 90001), nil, api.ErrConflict}, {rows(1, 90000, 1, 89999), nil, api.ErrConflict},
		{rows(0, 99820), nil, api.ErrEmpty}, {rows(0, 99820, 0, 99820), nil, api.ErrEmpty}, {rows(most, 99820, most, 99820), nil, api.ErrEmpty}, {slices.Repeat(rows(7, 90000), mostRows), nil, api.ErrEmpty},
		{rows(1, 99820, most, 78924), nil, api.ErrMismatch}, {rows(0, 99820, most-1, 78924), nil, api.ErrMismatch}, {rows(1, 90000, 2, 90000), nil, api.ErrMismatch},
	} {
		before := slices.Clone(x.l)
		if got, e := audit.Table(x.l); !slices.Equal(got, x.want) || e != x.e {
			t.Error(i, got, e)
		}
		if !slices.Equal(x.l, before) {
			t.Error("changed", i)
		}
	}
}

// P17.3: all rows of small numbers that reach from no alcohol to alcohol alone, against the definition.
func TestTableSmall(t *testing.T) {
	small(4, 3, 3, func(part []api.Grade) {
		l := slices.Clone(part)
		for i := range l {
			l[i].Strength *= most / 2
		}
		var want []api.Grade
		for i, g := range l {
			if i == 0 || g.Strength > l[i-1].Strength {
				want = append(want, g)
			}
		}
		e := api.ErrConflict
		if tolerated(l, 0) {
			_, e = density.Check(want)
		}
		if e != api.OK {
			want = nil
		}
		if got, f := audit.Table(l); !slices.Equal(got, want) || f != e {
			t.Fatal(l, got, f)
		}
	})
}

// P17.2 and P17.3: the repaired rows of any rows that reach from end to end give a table.
func TestRepairedTable(t *testing.T) {
	for _, l := range many() {
		l = slices.Concat(rows(0, 95000), l[:min(len(l), mostRows-2)], rows(most, 85000))
		got, _, e := audit.Repair(l)
		if e != api.OK {
			t.Fatal(l, e)
		}
		if table, e := audit.Table(got); e != api.OK || len(table) < 2 || table[0] != got[0] || table[len(table)-1] != got[len(got)-1] {
			t.Fatal(l, table, e)
		}
	}
}

// Arguments are not changed, nor is what lies behind them in the same memory; results share no memory.
func TestArgumentsStay(t *testing.T) {
	l := append(rows(0, 99820, 0, 99820, 5000, 93016, most, 78924), api.Grade{Strength: 7, Density: 7})[:4]
	for i, do := range []func() []api.Grade{
		func() []api.Grade { r, _, _ := audit.Repair(l); return r },
		func() []api.Grade { r, _ := audit.Table(l); return r },
		func() []api.Grade { r, _ := audit.Table(l[1:]); return r },
	} {
		got := do()
		want := slices.Clone(got)
		// What is written into a result, or behind it, is nowhere else.
		_ = append(got, api.Grade{Strength: 9, Density: 9})
		clear(got)
		if again := do(); !slices.Equal(again, want) || len(want) == 0 {
			t.Error(i, again, want)
		}
	}
	audit.Check(l)
	audit.Clashes(l, 0)
	audit.Largest(l)
	audit.Least(l)
	if !slices.Equal(l[:5], rows(0, 99820, 0, 99820, 5000, 93016, most, 78924, 7, 7)) {
		t.Error(l[:5])
	}
}

// P1: no function panics, for all arguments.
func TestNoPanic(t *testing.T) {
	for _, a := range extremes {
		for _, b := range extremes {
			for _, l := range [][]api.Grade{nil, rows(a, b), rows(0, 99820, a, b), rows(a, b, most, 78924), rows(0, a, most, b), example()} {
				audit.Check(l)
				audit.Clashes(l, a)
				audit.Largest(l)
				audit.Repair(l)
				audit.Least(l)
				audit.Table(l)
			}
		}
	}
}
