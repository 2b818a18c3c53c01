package gauge_test

import (
	"math"
	"math/big"
	"slices"
	"testing"

	"spile/api"
	"spile/cask"
	"spile/dip"
	"spile/gauge"
)

const (
	mostHeight  = 2 * api.MaxLength
	mostWet     = 4 * api.MaxVolume // of a mark, and of a tolerance
	mostVolume  = 32 * api.MaxVolume
	mostAlcohol = 32 * api.MaxAlcohol
	mostMarks   = api.MaxMarks
	mostReports = api.MaxItems
	mostRise    = 10000
)

// extremes are numbers at and beyond all limits.
var extremes = []int{
	math.MinInt, api.MinHeat - 1, -1, 0, 1, 2, 64, 65, 128, api.MaxHeat + 1, api.MaxStrength, api.MaxStrength + 1, api.MaxDay + 1,
	mostHeight, mostHeight + 1, mostWet, mostWet + 1, mostVolume, mostVolume + 1, mostAlcohol, mostAlcohol + 1, math.MaxInt,
}

// heats and rises are right numbers, most of them at the edges of something.
var (
	heats = []int{api.MinHeat, -399, -1, 0, 1, 100, 199, 200, 201, 300, 599, api.MaxHeat}
	rises = []int{0, 1, 2, 110, 999, 9999, mostRise}
)

// table returns a table with the heights and the volumes that follow one another.
func table(tolerance int, l ...int) api.Table {
	t := api.Table{Tolerance: tolerance}
	for i := 0; i < len(l); i += 2 {
		t.Marks = append(t.Marks, api.Mark{Height: l[i], Volume: l[i+1]})
	}
	return t
}

// row returns a table of n marks, each one a height and a volume above the one before.
func row(n int) api.Table {
	t := api.Table{Tolerance: 3}
	for i := range n {
		t.Marks = append(t.Marks, api.Mark{Height: i, Volume: i})
	}
	return t
}

// example is the table of the example of the document.
func example() api.Table {
	return table(2, 0, 0, 10, 100, 20, 250)
}

// rightTables are tables that are right: with flat and steep parts, not from 0 on, and up to the limits.
func rightTables() []api.Table {
	return []api.Table{
		example(),
		table(0, 0, 0, 1, 0),
		table(0, 0, 7, 1, 9),
		table(1, 3, 4, 5, 4, 12, 9, 13, 30, 14, 30, 15, 30, 31, 33),
		table(0, 11, 100, 40, 100),
		table(mostWet, 0, 0, 150, mostWet),
		table(mostWet, mostHeight-90, mostWet-13, mostHeight, mostWet),
		row(mostMarks),
	}
}

// wrongTables are tables with an error of each kind.
func wrongTables() []api.Table {
	return []api.Table{
		{}, table(2, 0, 0), row(mostMarks + 1),
		table(-1, 0, 0, 10, 100), table(mostWet+1, 0, 0, 10, 100), table(math.MaxInt, 0, 0, 10, 100),
		table(2, -1, 0, 10, 100), table(2, 0, 0, mostHeight+1, 100), table(2, 0, -1, 10, 100), table(2, 0, 0, 10, mostWet+1),
		table(2, 0, 0, 0, 100), table(2, 10, 0, 0, 100), table(2, 0, 5, 10, 4),
	}
}

// read returns a reading of a dip at 20 degrees, with 40 per cent.
func read(dip int) api.Reading {
	return api.Reading{Day: 40000, Dip: dip, Heat: 200, Strength: 4000}
}

// report returns a right report with the bounds of the volume, at 40 per cent.
func report(low, high int) api.Report {
	return strong(low, high, 4000)
}

// strong returns a right report with the bounds of the volume, at a strength.
func strong(low, high, strength int) api.Report {
	r := api.Report{Reading: read(10), Volume: api.Bounds{Low: low, High: high}}
	r.Reading.Strength = strength
	r.Alcohol = api.Bounds{Low: low * strength, High: high * strength}
	return r
}

// rightReadings are readings at both ends of each number.
func rightReadings() []api.Reading {
	return []api.Reading{
		{}, read(10), {Day: api.MaxDay}, {Dip: mostHeight}, {Heat: api.MinHeat}, {Heat: api.MaxHeat}, {Strength: api.MaxStrength},
		{Day: api.MaxDay, Dip: mostHeight, Heat: api.MaxHeat, Strength: api.MaxStrength},
	}
}

// wrongReadings are readings each of which has one number that is out of range.
func wrongReadings() []api.Reading {
	var l []api.Reading
	change := func(set func(r *api.Reading, n int), numbers ...int) {
		for _, n := range append(numbers, math.MinInt, math.MaxInt) {
			r := read(10)
			set(&r, n)
			l = append(l, r)
		}
	}
	change(func(r *api.Reading, n int) { r.Day = n }, -1, api.MaxDay+1)
	change(func(r *api.Reading, n int) { r.Dip = n }, -1, mostHeight+1)
	change(func(r *api.Reading, n int) { r.Heat = n }, api.MinHeat-1, api.MaxHeat+1)
	change(func(r *api.Reading, n int) { r.Strength = n }, -1, api.MaxStrength+1)
	return l
}

// wrongReports are reports each of which is not right for one reason.
func wrongReports() []api.Report {
	var l []api.Report
	for _, r := range wrongReadings() {
		x := report(100, 102)
		x.Reading = r
		// A volume of 0 has no alcohol at any strength.
		none := api.Report{Reading: r}
		l = append(l, x, none)
	}
	for _, x := range [][2]int{{-1, 102}, {-2, -1}, {102, 101}, {1, 0}, {0, mostVolume + 1}, {mostVolume + 1, mostVolume + 1}} {
		l = append(l, report(x[0], x[1]), strong(x[0], x[1], 0), strong(x[0], x[1], 1))
	}
	for _, n := range []int{math.MinInt, math.MaxInt} {
		l = append(l, strong(n, 5, 0), strong(5, n, 0), strong(n, n, 0), strong(n, n, 1), strong(n, n, api.MaxStrength))
	}
	for _, b := range []api.Bounds{{}, {Low: 399999, High: 408000}, {Low: 400001, High: 408000}, {Low: 400000, High: 407999}, {Low: 400000, High: 408001}, {Low: 100, High: 102}} {
		x := report(100, 102)
		x.Alcohol = b
		l = append(l, x)
	}
	return l
}

// P15.1: both ends of each number of a reading, and what is beyond them.
func TestCheck(t *testing.T) {
	for _, r := range rightReadings() {
		if e := gauge.Check(r); e != api.OK {
			t.Error(r, e)
		}
	}
	for _, r := range wrongReadings() {
		if e := gauge.Check(r); e != api.ErrRange {
			t.Error(r, e)
		}
	}
}

// P15.1: the examples of the document: at, below and above each mark.
func TestWetExamples(t *testing.T) {
	for _, x := range [][3]int{{0, 0, 2}, {1, 0, 102}, {9, 0, 102}, {10, 100, 102}, {11, 100, 252}, {15, 100, 252}, {19, 100, 252}, {20, 250, 252}} {
		if got, e := gauge.Wet(example(), x[0]); got != (api.Bounds{Low: x[1], High: x[2]}) || e != api.OK {
			t.Error(x, got, e)
		}
	}
}

// reference returns the bounds of the wet volume by the definition.
func reference(t api.Table, height int) api.Bounds {
	var b api.Bounds
	for _, m := range t.Marks {
		if m.Height <= height {
			b.Low = m.Volume
		}
	}
	for _, m := range slices.Backward(t.Marks) {
		if m.Height >= height {
			b.High = m.Volume + t.Tolerance
		}
	}
	return b
}

// ends returns the first and the last height of a table.
func ends(t api.Table) (int, int) {
	return t.Marks[0].Height, t.Marks[len(t.Marks)-1].Height
}

// P15.1: all heights of tables of all kinds, against the definition, and heights beyond them.
func TestWet(t *testing.T) {
	for _, l := range rightTables() {
		before := slices.Clone(l.Marks)
		first, last := ends(l)
		for h := first; h <= last; h++ {
			if got, e := gauge.Wet(l, h); got != reference(l, h) || e != api.OK {
				t.Fatal(l, h, got, e)
			}
		}
		for _, h := range []int{first - 1, last + 1, math.MinInt, math.MaxInt} {
			if got, e := gauge.Wet(l, h); got != (api.Bounds{}) || e != api.ErrRange {
				t.Error(l, h, got, e)
			}
		}
		if !slices.Equal(l.Marks, before) {
			t.Error("changed", l)
		}
	}
	for _, l := range wrongTables() {
		for _, h := range extremes {
			if got, e := gauge.Wet(l, h); got != (api.Bounds{}) || e != api.ErrArg {
				t.Error(l, h, got, e)
			}
		}
	}
}

// P15.1: the examples of the document, and others that change with the heat.
func TestReportExamples(t *testing.T) {
	for i, x := range []struct {
		dip, heat, strength, rise int
		volume, alcohol           api.Bounds
	}{
		{10, 200, 4000, 0, api.Bounds{Low: 100, High: 102}, api.Bounds{Low: 400000, High: 408000}},
		{10, 200, 4000, mostRise, api.Bounds{Low: 100, High: 102}, api.Bounds{Low: 400000, High: 408000}},
		{15, 200, 4000, 110, api.Bounds{Low: 100, High: 252}, api.Bounds{Low: 400000, High: 1008000}},
		{15, 200, 0, 110, api.Bounds{Low: 100, High: 252}, api.Bounds{}},
		{15, 200, 10000, 110, api.Bounds{Low: 100, High: 252}, api.Bounds{Low: 1000000, High: 2520000}},
		// 100 and 252 are 99.89 and 251.72.
		{15, 300, 4000, 110, api.Bounds{Low: 99, High: 252}, api.Bounds{Low: 396000, High: 1008000}},
		// 100 and 252 are 90.9 and 229.09.
		{15, 300, 4000, 10000, api.Bounds{Low: 90, High: 230}, api.Bounds{Low: 360000, High: 920000}},
		// 100 and 252 are 111.11 and 280.
		{15, 100, 1, 10000, api.Bounds{Low: 111, High: 280}, api.Bounds{Low: 111, High: 280}},
		// 0 and 2 are 0 and 5.
		{0, api.MinHeat, 100, 10000, api.Bounds{Low: 0, High: 5}, api.Bounds{Low: 0, High: 500}},
	} {
		r := api.Reading{Day: 7, Dip: x.dip, Heat: x.heat, Strength: x.strength}
		got, e := gauge.Report(example(), r, x.rise)
		if got != (api.Report{Reading: r, Volume: x.volume, Alcohol: x.alcohol}) || e != api.OK {
			t.Error(i, got, e)
		}
	}
}

// at20 returns the bounds at 20 degrees of bounds that were measured at a heat, by the definition.
func at20(b api.Bounds, heat, rise int) api.Bounds {
	factor := big.NewInt(int64(10000000 + rise*(heat-200)))
	correct := func(v, more int64) int {
		product := new(big.Int).Mul(big.NewInt(v), big.NewInt(10000000))
		down, rest := new(big.Int).DivMod(product, factor, new(big.Int))
		if rest.Sign() > 0 {
			down.Add(down, big.NewInt(more))
		}
		return int(down.Int64())
	}
	return api.Bounds{Low: correct(int64(b.Low), 0), High: correct(int64(b.High), 1)}
}

// dips returns heights of a table: its marks, and those close to them.
func dips(l api.Table) []int {
	first, last := ends(l)
	var all []int
	for _, m := range l.Marks {
		for h := max(first, m.Height-1); h <= min(last, m.Height+1); h++ {
			all = append(all, h)
		}
	}
	slices.Sort(all)
	return slices.Compact(all)
}

// P15.1 and P15.3: tables, dips, heats, rises and strengths of all kinds, against the definition; reports are right.
func TestReport(t *testing.T) {
	for _, l := range rightTables() {
		before := slices.Clone(l.Marks)
		for _, h := range dips(l) {
			for _, heat := range heats {
				for _, rise := range rises {
					for _, strength := range []int{0, 1, 4000, api.MaxStrength} {
						r := api.Reading{Day: h % 1000, Dip: h, Heat: heat, Strength: strength}
						v := at20(reference(l, h), heat, rise)
						want := api.Report{Reading: r, Volume: v, Alcohol: api.Bounds{Low: v.Low * strength, High: v.High * strength}}
						if got, e := gauge.Report(l, r, rise); got != want || e != api.OK || !gauge.Right(got) {
							t.Fatal(l, r, rise, got, e)
						}
					}
				}
			}
		}
		if !slices.Equal(l.Marks, before) {
			t.Error("changed", l)
		}
	}
}

// P15.1: a table that is not right, before what is out of range: the reading, the rise or the dip.
func TestReportRefuses(t *testing.T) {
	check := func(l api.Table, r api.Reading, rise int, want api.Errno) {
		t.Helper()
		if got, e := gauge.Report(l, r, rise); got != (api.Report{}) || e != want {
			t.Error(l, r, rise, got, e)
		}
	}
	for _, l := range wrongTables() {
		for _, r := range append(wrongReadings(), rightReadings()...) {
			check(l, r, 110, api.ErrArg)
			check(l, r, -1, api.ErrArg)
		}
	}
	for _, r := range wrongReadings() {
		check(example(), r, 110, api.ErrRange)
		check(example(), r, mostRise+1, api.ErrRange)
		r.Dip = 10
		if gauge.Check(r) != api.OK {
			check(table(2, 0, 0, mostHeight, 100), r, 110, api.ErrRange)
		}
	}
	for _, rise := range []int{-1, mostRise + 1, math.MinInt, math.MaxInt} {
		check(example(), read(10), rise, api.ErrRange)
		check(example(), read(21), rise, api.ErrRange)
	}
	for _, h := range []int{21, 22, mostHeight} {
		check(example(), read(h), 110, api.ErrRange)
	}
	for _, h := range []int{0, 2, 32, mostHeight} {
		check(table(1, 3, 4, 31, 33), read(h), 110, api.ErrRange)
	}
}

// P15.1: reports that are right, up to the limits, and those with one thing that is not.
func TestRight(t *testing.T) {
	for _, r := range rightReadings() {
		for _, v := range []api.Bounds{{}, {Low: 0, High: 1}, {Low: 100, High: 102}, {Low: 0, High: mostVolume}, {Low: mostVolume, High: mostVolume}} {
			x := api.Report{Reading: r, Volume: v, Alcohol: api.Bounds{Low: v.Low * r.Strength, High: v.High * r.Strength}}
			if !gauge.Right(x) {
				t.Error(x)
			}
		}
	}
	for _, x := range wrongReports() {
		if gauge.Right(x) {
			t.Error(x)
		}
	}
	// Alcohol that is the product only with a wraparound of numbers.
	x := strong(0, 1<<62, 4)
	if x.Alcohol.High != 0 || gauge.Right(x) {
		t.Error(x)
	}
}

// P15.2: reports with more and less in common, down to one number.
func TestTogether(t *testing.T) {
	for i, x := range []struct {
		l         []api.Report
		low, high int
	}{
		{[]api.Report{report(100, 102)}, 100, 102},
		{[]api.Report{report(100, 102), report(100, 102)}, 100, 102},
		{[]api.Report{report(100, 102), report(99, 103)}, 100, 102},
		{[]api.Report{report(99, 103), report(100, 102)}, 100, 102},
		{[]api.Report{report(90, 102), report(100, 110)}, 100, 102},
		{[]api.Report{report(90, 100), report(100, 110)}, 100, 100},
		{[]api.Report{report(90, 105), report(95, 110), report(80, 101), report(97, 200)}, 97, 101},
		{[]api.Report{report(0, 0), report(0, mostVolume)}, 0, 0},
		{[]api.Report{report(mostVolume, mostVolume), report(0, mostVolume)}, mostVolume, mostVolume},
		{slices.Repeat([]api.Report{report(7, 9)}, mostReports), 7, 9},
	} {
		before := slices.Clone(x.l)
		volume, alcohol, e := gauge.Together(x.l)
		if volume != (api.Bounds{Low: x.low, High: x.high}) || alcohol != (api.Bounds{Low: x.low * 4000, High: x.high * 4000}) || e != api.OK {
			t.Error(i, volume, alcohol, e)
		}
		if !slices.Equal(x.l, before) {
			t.Error("changed", i)
		}
	}
}

// with returns a right report with another day, heat or dip.
func with(low, high int, change func(r *api.Reading)) api.Report {
	x := report(low, high)
	change(&x.Reading)
	return x
}

// P15.2: only the strength and the day have to be the same, and without strength there is no alcohol.
func TestTogetherDiffers(t *testing.T) {
	warmer := with(100, 102, func(r *api.Reading) { r.Heat, r.Dip = 300, 11 })
	volume, alcohol, e := gauge.Together([]api.Report{report(101, 200), warmer})
	if volume != (api.Bounds{Low: 101, High: 102}) || alcohol != (api.Bounds{Low: 404000, High: 408000}) || e != api.OK {
		t.Error(volume, alcohol, e)
	}
	volume, alcohol, e = gauge.Together([]api.Report{strong(101, 200, 0), strong(100, 102, 0)})
	if volume != (api.Bounds{Low: 101, High: 102}) || alcohol != (api.Bounds{}) || e != api.OK {
		t.Error(volume, alcohol, e)
	}
	// Without strength a conflict is found by the volumes alone.
	if volume, alcohol, e := gauge.Together([]api.Report{strong(1, 2, 0), strong(3, 4, 0)}); volume != (api.Bounds{}) || alcohol != (api.Bounds{}) || e != api.ErrConflict {
		t.Error(volume, alcohol, e)
	}
}

// apart checks that reports say nothing together.
func apart(t *testing.T, want api.Errno, l ...api.Report) {
	t.Helper()
	if volume, alcohol, e := gauge.Together(l); volume != (api.Bounds{}) || alcohol != (api.Bounds{}) || e != want {
		t.Error(l, volume, alcohol, e)
	}
}

// P15.2: each error of reports together, and which of several ones comes first.
func TestTogetherRefuses(t *testing.T) {
	good := report(100, 102)
	later := with(100, 102, func(r *api.Reading) { r.Day++ })
	stronger := strong(100, 102, 4001)
	apart(t, api.ErrEmpty)
	apart(t, api.ErrTooLarge, slices.Repeat([]api.Report{good}, mostReports+1)...)
	for _, bad := range wrongReports() {
		apart(t, api.ErrTooLarge, slices.Repeat([]api.Report{bad}, mostReports+1)...)
		apart(t, api.ErrArg, bad)
		apart(t, api.ErrArg, good, bad)
		apart(t, api.ErrArg, bad, good)
		apart(t, api.ErrArg, good, later, bad)
		apart(t, api.ErrArg, good, report(200, 201), bad)
	}
	for _, other := range []api.Report{later, stronger, strong(0, 0, 4001), strong(100, 102, 0)} {
		apart(t, api.ErrMismatch, good, other)
		apart(t, api.ErrMismatch, other, good)
		apart(t, api.ErrMismatch, good, good, other)
		apart(t, api.ErrMismatch, report(103, 104), good, other)
	}
	apart(t, api.ErrConflict, good, report(103, 104))
	apart(t, api.ErrConflict, report(103, 104), good)
	apart(t, api.ErrConflict, good, report(0, 99))
	// Each has something in common with the next one, but not all of them.
	apart(t, api.ErrConflict, report(1, 3), report(3, 5), report(5, 7))
}

// P15.3: all pairs and threes of small reports: what they say together lies within each of them, and does not depend on their order.
func TestTogetherSmall(t *testing.T) {
	var all []api.Report
	for low := range 5 {
		for high := low; high < 5; high++ {
			all = append(all, report(low, high))
		}
	}
	for _, a := range all {
		for _, b := range all {
			for _, c := range all {
				volume, alcohol, e := gauge.Together([]api.Report{a, b, c})
				low, high := max(a.Volume.Low, b.Volume.Low, c.Volume.Low), min(a.Volume.High, b.Volume.High, c.Volume.High)
				if low > high {
					apart(t, api.ErrConflict, a, b, c)
					continue
				}
				if volume != (api.Bounds{Low: low, High: high}) || alcohol != (api.Bounds{Low: low * 4000, High: high * 4000}) || e != api.OK {
					t.Fatal(a, b, c, volume, alcohol, e)
				}
				turned, spirit, e := gauge.Together([]api.Report{c, a, b})
				if turned != volume || spirit != alcohol || e != api.OK {
					t.Fatal(a, b, c, turned, spirit, e)
				}
			}
		}
	}
}

// P15.2: the example of the document, and amounts at and beyond both bounds.
func TestDiffer(t *testing.T) {
	r, _ := gauge.Report(example(), read(10), 110)
	for _, x := range [][4]int{
		{410000, 2000, 10000, api.AnswerNo},
		{408001, 1, 8001, api.AnswerNo},
		{408000, 0, 8000, api.AnswerYes},
		{404000, -4000, 4000, api.AnswerYes},
		{400000, -8000, 0, api.AnswerYes},
		{399999, -8001, -1, api.AnswerNo},
		{0, -408000, -400000, api.AnswerNo},
		{mostAlcohol, mostAlcohol - 408000, mostAlcohol - 400000, api.AnswerNo},
	} {
		if missing, answer, e := gauge.Differ(r, x[0]); missing != (api.Bounds{Low: x[1], High: x[2]}) || answer != x[3] || e != api.OK {
			t.Error(x, missing, answer, e)
		}
	}
	most := strong(mostVolume, mostVolume, api.MaxStrength)
	if missing, answer, e := gauge.Differ(most, mostAlcohol); missing != (api.Bounds{}) || answer != api.AnswerYes || e != api.OK {
		t.Error(missing, answer, e)
	}
	if missing, answer, e := gauge.Differ(most, 0); missing != (api.Bounds{Low: -mostAlcohol, High: -mostAlcohol}) || answer != api.AnswerNo || e != api.OK {
		t.Error(missing, answer, e)
	}
}

// P15.3: all amounts around small reports: those between the bounds of the alcohol answer yes.
func TestDifferSmall(t *testing.T) {
	for low := range 4 {
		for high := low; high < 4; high++ {
			for _, strength := range []int{0, 1, 5} {
				r := strong(low, high, strength)
				for amount := range 25 {
					want := api.AnswerNo
					if amount >= r.Alcohol.Low && amount <= r.Alcohol.High {
						want = api.AnswerYes
					}
					missing, answer, e := gauge.Differ(r, amount)
					if missing != (api.Bounds{Low: amount - r.Alcohol.High, High: amount - r.Alcohol.Low}) || answer != want || e != api.OK {
						t.Error(r, amount, missing, answer, e)
					}
				}
			}
		}
	}
}

// P15.2: a report that is not right, then an amount that is out of range.
func TestDifferRefuses(t *testing.T) {
	for _, r := range wrongReports() {
		for _, amount := range extremes {
			if missing, answer, e := gauge.Differ(r, amount); missing != (api.Bounds{}) || answer != 0 || e != api.ErrArg {
				t.Error(r, amount, missing, answer, e)
			}
		}
	}
	for _, amount := range []int{-1, mostAlcohol + 1, math.MinInt, math.MaxInt} {
		if missing, answer, e := gauge.Differ(report(100, 102), amount); missing != (api.Bounds{}) || answer != 0 || e != api.ErrRange {
			t.Error(amount, missing, answer, e)
		}
	}
}

// P15.2: sums of no reports, of different ones, and of the greatest ones.
func TestTotal(t *testing.T) {
	greatest := strong(mostVolume-1, mostVolume, api.MaxStrength)
	for i, x := range []struct {
		l               []api.Report
		volume, alcohol api.Bounds
	}{
		{nil, api.Bounds{}, api.Bounds{}},
		{[]api.Report{}, api.Bounds{}, api.Bounds{}},
		{[]api.Report{report(100, 102)}, api.Bounds{Low: 100, High: 102}, api.Bounds{Low: 400000, High: 408000}},
		{[]api.Report{report(100, 102), strong(1, 5, 10), strong(7, 7, 0)}, api.Bounds{Low: 108, High: 114}, api.Bounds{Low: 400010, High: 408050}},
		{[]api.Report{report(1, 2), report(1, 2), report(10, 20)}, api.Bounds{Low: 12, High: 24}, api.Bounds{Low: 48000, High: 96000}},
		{[]api.Report{report(1, 2), with(3, 4, func(r *api.Reading) { r.Day = 0 })}, api.Bounds{Low: 4, High: 6}, api.Bounds{Low: 16000, High: 24000}},
		{slices.Repeat([]api.Report{greatest}, mostReports), api.Bounds{Low: 64 * (mostVolume - 1), High: 64 * mostVolume}, api.Bounds{Low: 64 * (mostVolume - 1) * api.MaxStrength, High: 64 * mostAlcohol}},
	} {
		before := slices.Clone(x.l)
		if volume, alcohol, e := gauge.Total(x.l); volume != x.volume || alcohol != x.alcohol || e != api.OK {
			t.Error(i, volume, alcohol, e)
		}
		if !slices.Equal(x.l, before) {
			t.Error("changed", i)
		}
	}
}

// P15.2: too many reports, then one that is not right, wherever it stands.
func TestTotalRefuses(t *testing.T) {
	check := func(want api.Errno, l ...api.Report) {
		t.Helper()
		if volume, alcohol, e := gauge.Total(l); volume != (api.Bounds{}) || alcohol != (api.Bounds{}) || e != want {
			t.Error(l, volume, alcohol, e)
		}
	}
	good := report(100, 102)
	check(api.ErrTooLarge, slices.Repeat([]api.Report{good}, mostReports+1)...)
	for _, bad := range wrongReports() {
		check(api.ErrTooLarge, slices.Repeat([]api.Report{bad}, mostReports+1)...)
		check(api.ErrArg, bad)
		check(api.ErrArg, bad, good)
		check(api.ErrArg, good, bad)
		check(api.ErrArg, good, bad, good)
	}
}

// P15.3: a greater dip has no lesser bounds.
func TestDipsRise(t *testing.T) {
	for _, l := range rightTables() {
		for _, heat := range heats {
			var before api.Report
			for _, h := range dips(l) {
				r := read(h)
				r.Heat = heat
				x, e := gauge.Report(l, r, 999)
				if e != api.OK || x.Volume.Low < before.Volume.Low || x.Volume.High < before.Volume.High || x.Alcohol.Low < before.Alcohol.Low || x.Alcohol.High < before.Alcohol.High {
					t.Fatal(l, r, x, before, e)
				}
				before = x
			}
		}
	}
}

// P15.3: a greater heat has no greater bounds.
func TestHeatsFall(t *testing.T) {
	for _, l := range rightTables() {
		for _, h := range dips(l) {
			for _, rise := range rises {
				before := report(mostVolume, mostVolume)
				for _, heat := range heats {
					r := read(h)
					r.Heat = heat
					x, e := gauge.Report(l, r, rise)
					if e != api.OK || x.Volume.Low > before.Volume.Low || x.Volume.High > before.Volume.High || x.Alcohol.Low > before.Alcohol.Low || x.Alcohol.High > before.Alcohol.High {
						t.Fatal(l, r, rise, x, before, e)
					}
					before = x
				}
			}
		}
	}
}

// isWithin reports whether bounds lie within others.
func isWithin(a, b api.Bounds) bool {
	return a.Low >= b.Low && a.High <= b.High
}

// P15.3: a table without some of the marks of a finer one has bounds around its bounds.
func TestFinerTables(t *testing.T) {
	fine := table(1, 3, 4, 5, 4, 12, 9, 13, 30, 14, 30, 15, 30, 31, 33)
	last := len(fine.Marks) - 1
	// Each bit is a mark between the first and the last one that the coarse table has.
	for chosen := range 1 << (last - 1) {
		for tolerance := fine.Tolerance; tolerance < 4; tolerance++ {
			coarse := api.Table{Marks: []api.Mark{fine.Marks[0]}, Tolerance: tolerance}
			for i := 1; i < last; i++ {
				if chosen>>(i-1)&1 == 1 {
					coarse.Marks = append(coarse.Marks, fine.Marks[i])
				}
			}
			coarse.Marks = append(coarse.Marks, fine.Marks[last])
			for h := 3; h <= 31; h++ {
				for _, heat := range []int{api.MinHeat, 200, api.MaxHeat} {
					r := read(h)
					r.Heat = heat
					wide, e := gauge.Report(coarse, r, 9999)
					narrow, e2 := gauge.Report(fine, r, 9999)
					if e != api.OK || e2 != api.OK || !isWithin(narrow.Volume, wide.Volume) || !isWithin(narrow.Alcohol, wide.Alcohol) {
						t.Fatal(coarse, r, narrow, wide, e, e2)
					}
				}
			}
		}
	}
}

// P2: what is gauged encloses what is there: cylinders that are standing, filled to all kinds of heights, by the digits of pi.
func TestEncloses(t *testing.T) {
	// A million of spaces are a millilitre, and pi lies between these numbers, divided by 10^15.
	const low, high, scale = 3141592653589793, 3141592653589794, 1000000000000000
	product := func(a, b, c int) *big.Int {
		ab := new(big.Int).Mul(big.NewInt(int64(a)), big.NewInt(int64(b)))
		return ab.Mul(ab, big.NewInt(int64(c)))
	}
	for _, radius := range []int{1, 500, 501, 3000, api.MaxLength} {
		for _, depth := range []int{1, 10000, 9001} {
			c := api.Cask{Name: "A-1", Position: api.Standing, Profile: []api.Point{{X: 0, Radius: radius}, {X: depth, Radius: radius}}}
			for _, n := range []int{1, 2, 13, 100} {
				heights, _ := dip.Even(depth, min(n, depth))
				l, e := dip.Build(c, heights, 1)
				if e != api.OK {
					t.Fatal(c, heights, e)
				}
				for h := 0; h <= depth; h += 1 + depth/500 {
					r, e := gauge.Report(l, read(h), 110)
					if e != api.OK || product(r.Volume.Low, 1000000, scale).Cmp(product(low, radius*radius, h)) > 0 || product(r.Volume.High, 1000000, scale).Cmp(product(high, radius*radius, h)) < 0 {
						t.Fatal(radius, depth, n, h, r, e)
					}
				}
			}
		}
	}
}

// P2: what is gauged has something in common with finer bounds of the same space: casks in both positions, filled to all kinds of heights.
func TestEnclosesFinerBounds(t *testing.T) {
	barrel := []api.Point{{X: 0, Radius: 3000}, {X: 4500, Radius: 3451}, {X: 9001, Radius: 3000}}
	for _, position := range []int{api.Lying, api.Standing} {
		c := api.Cask{Name: "A-1", Position: position, Profile: barrel}
		depth, _ := cask.Depth(c)
		for _, n := range []int{1, 2, 13, 60} {
			heights, _ := dip.Even(depth, n)
			l, e := dip.Build(c, heights, 4)
			if e != api.OK {
				t.Fatal(position, n, e)
			}
			for h := 1; h < depth; h += 1 + depth/100 {
				finer, e := dip.Build(c, []int{0, h, depth}, 16)
				if e != api.OK {
					t.Fatal(position, h, e)
				}
				there := api.Bounds{Low: finer.Marks[1].Volume, High: finer.Marks[1].Volume + finer.Tolerance}
				r, e := gauge.Report(l, read(h), 110)
				if e != api.OK || r.Volume.Low > there.High || r.Volume.High < there.Low {
					t.Fatal(position, n, h, r, there, e)
				}
			}
		}
	}
}

// Arguments are not changed, nor is what lies behind them in the same memory.
func TestArgumentsStay(t *testing.T) {
	l := table(2, 0, 0, 10, 100, 20, 250, 7, 7)
	l.Marks = l.Marks[:3]
	gauge.Wet(l, 15)
	gauge.Report(l, read(15), 110)
	if want := table(2, 0, 0, 10, 100, 20, 250, 7, 7); !slices.Equal(l.Marks[:4], want.Marks) {
		t.Error(l.Marks[:4])
	}
	reports := []api.Report{report(1, 3), report(2, 4), report(5, 6)}
	gauge.Together(reports[:2])
	gauge.Total(reports[:2])
	if !slices.Equal(reports, []api.Report{report(1, 3), report(2, 4), report(5, 6)}) {
		t.Error(reports)
	}
}

// P1: no function panics, for all arguments.
func TestNoPanic(t *testing.T) {
	for _, a := range extremes {
		for _, b := range extremes {
			r := api.Reading{Day: a, Dip: b, Heat: a, Strength: b}
			x := api.Report{Reading: r, Volume: api.Bounds{Low: a, High: b}, Alcohol: api.Bounds{Low: b, High: a}}
			gauge.Check(r)
			gauge.Right(x)
			gauge.Together([]api.Report{x, x})
			gauge.Total([]api.Report{x, x})
			gauge.Differ(x, a)
			for _, l := range []api.Table{{}, example(), table(a, 0, 0, a, b), table(a, a, b, b, a)} {
				gauge.Wet(l, b)
				gauge.Report(l, r, a)
				gauge.Report(l, read(10), b)
			}
		}
	}
}
