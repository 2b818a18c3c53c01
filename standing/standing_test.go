package standing_test

import (
	"math"
	"math/big"
	"slices"
	"testing"

	"spile/api"
	"spile/capacity"
	"spile/profile"
	"spile/standing"
)

const most = api.MaxLength

// noCounts are numbers into which no dip can be divided.
var noCounts = []int{0, -1, api.MaxStrips + 1, math.MinInt, math.MaxInt}

// points returns points with the X and the radii that follow one another.
func points(l ...int) []api.Point {
	var all []api.Point
	for i := 0; i < len(l); i += 2 {
		all = append(all, api.Point{X: l[i], Radius: l[i+1]})
	}
	return all
}

// of returns a standing cask with a profile.
func of(l []api.Point) api.Cask {
	return api.Cask{Name: "A-1", Position: api.Standing, Profile: l, Declared: 500}
}

// barrel is the cask of the example of layer 9, but that it stands.
func barrel() api.Cask {
	return of(points(0, 300, 500, 400, 1000, 300))
}

// with returns a barrel that was changed.
func with(change func(c *api.Cask)) api.Cask {
	c := barrel()
	change(&c)
	return c
}

// row returns a profile with the most points, the last one with another radius.
func row(step, radius, last int) []api.Point {
	l := make([]api.Point, api.MaxPoints)
	for i := range l {
		l[i] = api.Point{X: i * step, Radius: radius}
	}
	l[api.MaxPoints-1].Radius = last
	return l
}

// rightOnes are profiles that are right: short and long, cylinders, cones, steep ones, with and without integer radii.
func rightOnes() [][]api.Point {
	return [][]api.Point{
		barrel().Profile,
		points(0, 3, 10, 3),
		points(0, 2, 4, 4),
		points(0, 1, 1, 1),
		points(0, 1, 1, 2),
		points(0, 2, 1, 1),
		points(0, 3, 7, 5),
		points(0, 5, 7, 3),
		points(0, 1, 100, 90, 101, 90, 150, 1),
		points(0, 7, 3, 8, 9, 8, 10, 20, 13, 20, 31, 5, 32, 5),
		points(0, 5000, 8000, 6000, 16000, 5000),
		points(0, 1, most, most),
		points(0, most, most, 1),
		points(0, most, most, most),
		points(0, 1, 49999, most, 50000, most, most, 1),
		row(2, 9, 8),
		row(3225, most, most-1),
		row(3225, most, most),
	}
}

// faultyProfiles are lists of points with a fault of each kind.
func faultyProfiles() [][]api.Point {
	return [][]api.Point{
		nil,
		points(0, 5),
		make([]api.Point, api.MaxPoints+1),
		points(0, 5, most+1, 5),
		points(0, -1, 5, 5),
		points(1, 5, 5, 5),
		points(0, 5, 5, 5, 5, 5),
		points(0, 5, 5, 0),
		points(0, 5, 1, 4, 2, 5),
	}
}

// faultyCasks are casks with a fault of each kind, some of them not standing.
func faultyCasks() []api.Cask {
	l := []api.Cask{
		{},
		with(func(c *api.Cask) { c.Name = "" }),
		with(func(c *api.Cask) { c.Name, c.Position = "ä", api.Lying }),
		with(func(c *api.Cask) { c.Position = 0 }),
		with(func(c *api.Cask) { c.Position = 3 }),
		with(func(c *api.Cask) { c.Declared = -1 }),
		with(func(c *api.Cask) { c.Declared, c.Position = api.MaxVolume+1, api.Lying }),
	}
	for _, profile := range faultyProfiles() {
		l = append(l, of(profile), with(func(c *api.Cask) { c.Profile, c.Position = profile, api.Lying }))
	}
	return l
}

// lying is a right cask that does not stand.
func lying() api.Cask {
	return with(func(c *api.Cask) { c.Position = api.Lying })
}

// bounds returns bounds.
func bounds(low, high int) api.Bounds {
	return api.Bounds{Low: low, High: high}
}

// all returns the integers from the first to the last one.
func all(first, last int) []int {
	var l []int
	for i := first; i <= last; i++ {
		l = append(l, i)
	}
	return l
}

// lengthOf returns the length of a profile.
func lengthOf(l []api.Point) int {
	return l[len(l)-1].X
}

// radius returns the radius at x as a fraction.
func radius(l []api.Point, x int) *big.Rat {
	for i, q := range l[1:] {
		if p := l[i]; x <= q.X {
			rise := big.NewRat(int64(q.Radius-p.Radius)*int64(x-p.X), int64(q.X-p.X))
			return rise.Add(rise, big.NewRat(int64(p.Radius), 1))
		}
	}
	return nil
}

// down returns a number rounded down, and up one rounded up.
func down(r *big.Rat) int {
	return int(new(big.Int).Div(r.Num(), r.Denom()).Int64())
}

func up(r *big.Rat) int {
	return -down(new(big.Rat).Neg(r))
}

// reference returns the bounds of the sums between the first level and each other one, by the definition.
func reference(l []api.Point, levels []int) []api.Bounds {
	var sums []api.Bounds
	var sum api.Bounds
	for i := range len(levels) - 1 {
		p, q := radius(l, levels[i]), radius(l, levels[i+1])
		lesser, greater := min(down(p), down(q)), max(up(p), up(q))
		sum.Low += 3 * (levels[i+1] - levels[i]) * lesser * lesser
		sum.High += 3 * (levels[i+1] - levels[i]) * greater * greater
		sums = append(sums, sum)
	}
	return sums
}

// space returns the bounds of pi / 3 times a sum with bounds.
func space(sum api.Bounds) api.Bounds {
	times := func(n, a, b int) *big.Rat {
		return new(big.Rat).Mul(big.NewRat(int64(n), 1), big.NewRat(int64(a), int64(b)))
	}
	return bounds(down(times(sum.Low, 333, 318)), up(times(sum.High, 355, 339)))
}

// folds returns the n-fold levels up to a dip, by the definition.
func folds(l []api.Point, dip, n int) []int {
	var levels []int
	for x := range dip + 1 {
		is := slices.ContainsFunc(l, func(p api.Point) bool { return p.X == x && x < dip })
		for i := range n + 1 {
			is = is || i*dip/n == x
		}
		if is {
			levels = append(levels, x)
		}
	}
	return levels
}

// dips returns dips of a cask that are greater than 0.
func dips(l []api.Point) []int {
	length := lengthOf(l)
	several := []int{1, 2, length / 5, length / 2, length/2 + 1, length - length/7, length - 1, length}
	for _, p := range l[:min(len(l), 9)] {
		several = append(several, p.X-1, p.X, p.X+1)
	}
	return slices.DeleteFunc(several, func(x int) bool { return x <= 0 || x > length })
}

// counts are numbers of levels.
var counts = []int{1, 2, 3, 7, 63, 64}

// divisions are levels of many kinds that are right for a profile.
func divisions(l []api.Point) [][]int {
	length := lengthOf(l)
	several := [][]int{{0, 1}, {length - 1, length}, {l[len(l)-2].X, length}, {0, l[1].X}}
	for _, dip := range dips(l) {
		for _, n := range counts {
			levels, _ := standing.Levels(l, dip, n)
			several = append(several, levels)
			// Without the first ones they do not begin at 0.
			if len(levels) > 5 {
				several = append(several, levels[2:], levels[3:len(levels)-1])
			}
		}
	}
	return several
}

// exactly returns the space of a profile between two levels, but for small errors.
func exactly(l []api.Point, from, to int) float64 {
	total := 0.0
	for i, q := range l[1:] {
		p := l[i]
		low, high := max(from, p.X), min(to, q.X)
		if low >= high {
			continue
		}
		a, _ := radius(l, low).Float64()
		b, _ := radius(l, high).Float64()
		total += math.Pi / 3 * float64(high-low) * (a*a + a*b + b*b)
	}
	return total
}

// encloses reports whether bounds enclose a space, but for small errors.
func encloses(b api.Bounds, space float64) bool {
	slack := 1e-9 * space
	return float64(b.Low) <= space+slack && space <= float64(b.High)+slack
}

// P12.1: even and uneven levels, points among them, dips at and beside points, and the dip 0.
func TestLevelsExamples(t *testing.T) {
	l := points(0, 7, 3, 8, 9, 8, 10, 20, 13, 20, 31, 5, 32, 5)
	for _, x := range []struct {
		l      []api.Point
		dip, n int
		want   []int
	}{
		{points(0, 3, 10, 3), 10, 1, []int{0, 10}},
		{points(0, 3, 10, 3), 10, 3, []int{0, 3, 6, 10}},
		{points(0, 3, 10, 3), 7, 3, []int{0, 2, 4, 7}},
		{points(0, 3, 10, 3), 10, 64, all(0, 10)},
		{points(0, 3, 10, 3), 1, 64, []int{0, 1}},
		{points(0, 3, 10, 3), 0, 1, []int{0}},
		{points(0, 3, 10, 3), 0, 64, []int{0}},
		{points(0, 2, 4, 4), 4, 2, []int{0, 2, 4}},
		{l, 0, 5, []int{0}},
		{l, 1, 1, []int{0, 1}},
		{l, 3, 1, []int{0, 3}},
		{l, 4, 1, []int{0, 3, 4}},
		{l, 10, 1, []int{0, 3, 9, 10}},
		{l, 11, 2, []int{0, 3, 5, 9, 10, 11}},
		{l, 12, 4, []int{0, 3, 6, 9, 10, 12}},
		{l, 31, 1, []int{0, 3, 9, 10, 13, 31}},
		{l, 32, 1, []int{0, 3, 9, 10, 13, 31, 32}},
		{l, 32, 2, []int{0, 3, 9, 10, 13, 16, 31, 32}},
		{barrel().Profile, 1000, 3, []int{0, 333, 500, 666, 1000}},
		{barrel().Profile, 500, 1, []int{0, 500}},
		{barrel().Profile, 501, 1, []int{0, 500, 501}},
		{points(0, 1, most, most), most, 3, []int{0, 33333, 66666, most}},
	} {
		if got, e := standing.Levels(x.l, x.dip, x.n); !slices.Equal(got, x.want) || e != api.OK {
			t.Error(x, got, e)
		}
	}
	// The most levels that there can be.
	if got, e := standing.Levels(row(3225, 9, 8), 99975, 64); len(got) != 65+30 || e != api.OK {
		t.Error(len(got), e)
	}
}

// P12.1: profiles of all kinds, dips and n, against the definition; the levels are right, but for the dip 0.
func TestLevels(t *testing.T) {
	for _, l := range rightOnes() {
		before := slices.Clone(l)
		if lengthOf(l) > 1000 {
			continue
		}
		for dip := 0; dip <= lengthOf(l); dip += 1 + lengthOf(l)/33 {
			for n := 1; n <= api.MaxStrips; n++ {
				got, e := standing.Levels(l, dip, n)
				if !slices.Equal(got, folds(l, dip, n)) || e != api.OK {
					t.Fatal(l, dip, n, got, e)
				}
				if f := standing.Check(of(l), got); dip > 0 && f != api.OK {
					t.Fatal(l, dip, n, got, f)
				}
			}
		}
		if !slices.Equal(l, before) {
			t.Fatal("changed", l)
		}
	}
}

// P12.1: a profile that is not right comes first, then what is out of range.
func TestLevelsRefuses(t *testing.T) {
	check := func(l []api.Point, dip, n int, want api.Errno) {
		t.Helper()
		if got, e := standing.Levels(l, dip, n); len(got) != 0 || e != want {
			t.Error(l, dip, n, got, e)
		}
	}
	for _, l := range faultyProfiles() {
		for _, n := range append([]int{1, 5}, noCounts...) {
			check(l, 0, n, api.ErrArg)
			check(l, n, 1, api.ErrArg)
		}
	}
	for _, n := range noCounts {
		check(barrel().Profile, 0, n, api.ErrRange)
		check(barrel().Profile, 500, n, api.ErrRange)
	}
	for _, dip := range []int{-1, 1001, math.MinInt, math.MaxInt} {
		check(barrel().Profile, dip, 1, api.ErrRange)
		check(barrel().Profile, dip, 0, api.ErrRange)
	}
}

// levelsFault is the first error of levels for a barrel.
type levelsFault struct {
	levels []int
	want   api.Errno
}

// levelsFaults are levels with the first error of each for a barrel, whose points are at 0, 500 and 1000.
func levelsFaults() []levelsFault {
	return []levelsFault{
		{nil, api.ErrEmpty},
		{[]int{}, api.ErrEmpty},
		{[]int{0}, api.ErrEmpty},
		{[]int{-1}, api.ErrEmpty},
		{all(0, api.MaxMarks), api.ErrTooLarge},
		{make([]int, api.MaxMarks+1), api.ErrTooLarge},
		{slices.Repeat([]int{-1}, api.MaxMarks+1), api.ErrTooLarge},
		{make([]int, api.MaxMarks), api.ErrOrder},
		{[]int{-1, 5}, api.ErrRange},
		{[]int{0, 1001}, api.ErrRange},
		{[]int{500, -1}, api.ErrRange},
		{[]int{5, 4, -1}, api.ErrRange},
		{[]int{1001, 4, 5}, api.ErrRange},
		{[]int{0, 1000, 1001}, api.ErrRange},
		{[]int{math.MinInt, math.MaxInt}, api.ErrRange},
		{[]int{0, 0}, api.ErrOrder},
		{[]int{1000, 1000}, api.ErrOrder},
		{[]int{5, 4}, api.ErrOrder},
		{[]int{0, 5, 5}, api.ErrOrder},
		{[]int{0, 5, 4}, api.ErrOrder},
		{[]int{0, 600, 400, 1000}, api.ErrOrder},
		{[]int{0, 500, 500, 1000}, api.ErrOrder},
		{[]int{1000, 0}, api.ErrOrder},
		{[]int{0, 1000}, api.ErrNotFound},
		{[]int{499, 501}, api.ErrNotFound},
		{[]int{0, 499, 501, 1000}, api.ErrNotFound},
		{[]int{5, 501}, api.ErrNotFound},
	}
}

// P12.1: the first error of levels that the document names, wherever it stands; levels that are right.
func TestCheck(t *testing.T) {
	for _, x := range levelsFaults() {
		before := slices.Clone(x.levels)
		if got := standing.Check(barrel(), x.levels); got != x.want || !slices.Equal(x.levels, before) {
			t.Error(x, got)
		}
		if got, e := standing.Between(barrel(), x.levels); got != (api.Bounds{}) || e != x.want {
			t.Error("Between", x, got, e)
		}
		if got, e := standing.Sums(barrel(), x.levels); len(got) != 0 || e != x.want {
			t.Error("Sums", x, got, e)
		}
	}
	for _, levels := range [][]int{
		{0, 500, 1000}, {0, 500}, {500, 1000}, {0, 1}, {999, 1000}, {499, 500, 501}, {499, 500}, {500, 501}, {7, 9},
		all(0, api.MaxMarks-1), all(1000-api.MaxMarks+1, 1000), all(450, 450+api.MaxMarks-1),
	} {
		if got := standing.Check(barrel(), levels); got != api.OK {
			t.Error(levels, got)
		}
	}
	for _, x := range []levelsFault{
		{[]int{3, 9, 10}, api.OK},
		{[]int{2, 3, 9, 10, 12}, api.OK},
		{[]int{10, 13}, api.OK},
		{[]int{3, 10}, api.ErrNotFound},
		{[]int{3, 9, 11}, api.ErrNotFound},
		{[]int{8, 10}, api.ErrNotFound},
		{[]int{2, 9}, api.ErrNotFound},
		{[]int{13, 32}, api.ErrNotFound},
	} {
		if got := standing.Check(of(points(0, 7, 3, 8, 9, 8, 10, 20, 13, 20, 31, 5, 32, 5)), x.levels); got != x.want {
			t.Error(x, got)
		}
	}
}

// P12.1 and P12.2: a fault of the cask comes first, then that it is not standing, whatever the rest is.
func TestCasksAreRefused(t *testing.T) {
	check := func(c api.Cask, want api.Errno) {
		t.Helper()
		for _, levels := range [][]int{{0, 500, 1000}, {0}, nil, make([]int, api.MaxMarks+1), {0, 1000}, {5, 4}, {-1, 5}} {
			if got := standing.Check(c, levels); got != want {
				t.Error("Check", c, levels, got)
			}
			if got, e := standing.Between(c, levels); got != (api.Bounds{}) || e != want {
				t.Error("Between", c, levels, got, e)
			}
			if got, e := standing.Sums(c, levels); len(got) != 0 || e != want {
				t.Error("Sums", c, levels, got, e)
			}
		}
		for _, x := range [][2]int{{0, 1}, {5, 1}, {-1, 1}, {0, 0}, {5, 65}, {math.MaxInt, math.MinInt}} {
			if got, e := standing.Wet(c, x[0], x[1]); got != (api.Bounds{}) || e != want {
				t.Error("Wet", c, x, got, e)
			}
		}
	}
	for _, c := range faultyCasks() {
		check(c, api.ErrArg)
	}
	check(lying(), api.ErrMismatch)
}

// P12.1: the examples of the document, levels that do not begin at 0, radii between integers, and the greatest cask.
func TestExamples(t *testing.T) {
	for _, x := range []struct {
		l      []api.Point
		levels []int
		sums   []api.Bounds
		space  api.Bounds
	}{
		{points(0, 3, 10, 3), []int{0, 10}, []api.Bounds{bounds(270, 270)}, bounds(282, 283)},
		{points(0, 3, 10, 3), []int{0, 1, 4, 10}, []api.Bounds{bounds(27, 27), bounds(108, 108), bounds(270, 270)}, bounds(282, 283)},
		{points(0, 3, 10, 3), []int{4, 5, 7}, []api.Bounds{bounds(27, 27), bounds(81, 81)}, bounds(84, 85)},
		{points(0, 2, 4, 4), []int{0, 2, 4}, []api.Bounds{bounds(24, 54), bounds(78, 150)}, bounds(81, 158)},
		{points(0, 4, 4, 2), []int{0, 2, 4}, []api.Bounds{bounds(54, 96), bounds(78, 150)}, bounds(81, 158)},
		{points(0, 2, 4, 4), []int{0, 4}, []api.Bounds{bounds(48, 192)}, bounds(50, 202)},
		// At 1 the radius is 2.5, and at 3 it is 3.5.
		{points(0, 2, 4, 4), []int{1, 3}, []api.Bounds{bounds(24, 96)}, bounds(25, 101)},
		{points(0, 2, 4, 4), []int{0, 1, 3, 4}, []api.Bounds{bounds(12, 27), bounds(36, 123), bounds(63, 171)}, bounds(65, 180)},
		{points(0, 2, 4, 4, 6, 1), []int{0, 4, 6}, []api.Bounds{bounds(48, 192), bounds(54, 288)}, bounds(56, 302)},
		// 106 and 113 times 3: one of the bounds is an integer.
		{points(0, 1, 106, 1), []int{0, 106}, []api.Bounds{bounds(318, 318)}, bounds(333, 334)},
		{points(0, 1, 113, 1), []int{0, 113}, []api.Bounds{bounds(339, 339)}, bounds(354, 355)},
		{points(0, most, most, most), []int{0, most}, []api.Bounds{bounds(3*most*most*most, 3*most*most*most)}, bounds(3141509433962264, 3141592920353983)},
	} {
		if got, e := standing.Sums(of(x.l), x.levels); !slices.Equal(got, x.sums) || e != api.OK {
			t.Error("Sums", x, got, e)
		}
		if got, e := standing.Between(of(x.l), x.levels); got != x.space || e != api.OK {
			t.Error("Between", x, got, e)
		}
	}
}

// sumsOf returns the bounds of the sums for levels that are right.
func sumsOf(t *testing.T, l []api.Point, levels []int) []api.Bounds {
	t.Helper()
	sums, e := standing.Sums(of(l), levels)
	if len(sums) != len(levels)-1 || e != api.OK {
		t.Fatal(l, levels, sums, e)
	}
	return sums
}

// between returns the bounds of the space for levels that are right.
func between(t *testing.T, l []api.Point, levels []int) api.Bounds {
	t.Helper()
	b, e := standing.Between(of(l), levels)
	if e != api.OK {
		t.Fatal(l, levels, e)
	}
	return b
}

// P12.1 and P2: casks and levels of all kinds, against the definition; the exact space lies between the bounds.
func TestBetween(t *testing.T) {
	for _, l := range rightOnes() {
		before := slices.Clone(l)
		for _, levels := range divisions(l) {
			want := reference(l, levels)
			if got := sumsOf(t, l, levels); !slices.Equal(got, want) {
				t.Fatal("Sums", l, levels, got, want)
			}
			last := len(levels) - 1
			got := between(t, l, levels)
			if got != space(want[last-1]) || !encloses(got, exactly(l, levels[0], levels[last])) {
				t.Fatal("Between", l, levels, got, want)
			}
		}
		if !slices.Equal(l, before) {
			t.Fatal("changed", l)
		}
	}
}

// P12.1: all levels of all small cones, against the definition.
func TestSmallCones(t *testing.T) {
	for a := 1; a < 7; a++ {
		for b := 1; b < 7; b++ {
			for length := 1; length < 8; length++ {
				l := points(0, a, length, b)
				for chosen := range 1 << (length + 1) {
					levels := slices.DeleteFunc(all(0, length), func(x int) bool { return chosen>>x&1 == 0 })
					if len(levels) < 2 {
						continue
					}
					want := reference(l, levels)
					if got := sumsOf(t, l, levels); !slices.Equal(got, want) {
						t.Fatal(l, levels, got, want)
					}
					if got := between(t, l, levels); got != space(want[len(want)-1]) {
						t.Fatal(l, levels, got, want)
					}
				}
			}
		}
	}
}

// P12.2: the example of the document, nothing at the dip 0, and dips at and behind points.
func TestWetExamples(t *testing.T) {
	cone := points(0, 2, 4, 4, 6, 1)
	for _, x := range []struct {
		l      []api.Point
		dip, n int
		want   api.Bounds
	}{
		{points(0, 3, 10, 3), 10, 1, bounds(282, 283)},
		{points(0, 3, 10, 3), 10, 64, bounds(282, 283)},
		{points(0, 3, 10, 3), 3, 5, bounds(84, 85)},
		{points(0, 3, 10, 3), 0, 1, bounds(0, 0)},
		{points(0, 3, 10, 3), 0, 64, bounds(0, 0)},
		{cone, 0, 7, bounds(0, 0)},
		{cone, 2, 1, bounds(25, 57)},
		{cone, 4, 1, bounds(50, 202)},
		{cone, 4, 2, bounds(81, 158)},
		// At 5 the radius is 2.5.
		{cone, 5, 1, bounds(62, 252)},
		{cone, 6, 1, bounds(56, 302)},
	} {
		if got, e := standing.Wet(of(x.l), x.dip, x.n); got != x.want || e != api.OK {
			t.Error(x, got, e)
		}
	}
}

// P12.2 and P2: casks and dips of all kinds, against the definition; the exact space lies between the bounds.
func TestWet(t *testing.T) {
	for _, l := range rightOnes() {
		before := slices.Clone(l)
		for _, n := range counts {
			for _, dip := range dips(l) {
				levels, _ := standing.Levels(l, dip, n)
				sums := reference(l, levels)
				got, e := standing.Wet(of(l), dip, n)
				if got != space(sums[len(sums)-1]) || !encloses(got, exactly(l, 0, dip)) || e != api.OK {
					t.Fatal(l, dip, n, got, e)
				}
			}
			if got, e := standing.Wet(of(l), 0, n); got != (api.Bounds{}) || e != api.OK {
				t.Fatal(l, n, got, e)
			}
		}
		if !slices.Equal(l, before) {
			t.Fatal("changed", l)
		}
	}
}

// P12.2: what is out of range.
func TestWetRefuses(t *testing.T) {
	check := func(dip, n int) {
		t.Helper()
		if got, e := standing.Wet(barrel(), dip, n); got != (api.Bounds{}) || e != api.ErrRange {
			t.Error(dip, n, got, e)
		}
	}
	for _, dip := range []int{-1, 1001, math.MinInt, math.MaxInt} {
		check(dip, 1)
		check(dip, 0)
	}
	for _, n := range noCounts {
		check(0, n)
		check(500, n)
	}
}

// within reports whether bounds lie within others.
func within(inner, outer api.Bounds) bool {
	return outer.Low <= inner.Low && inner.Low <= inner.High && inner.High <= outer.High
}

// P12.3: sums never decrease.
func TestSumsNeverDecrease(t *testing.T) {
	for _, l := range rightOnes() {
		for _, levels := range divisions(l) {
			last := api.Bounds{}
			for _, b := range sumsOf(t, l, levels) {
				if b.Low < last.Low || b.High < last.High || b.High < b.Low {
					t.Fatal(l, levels, last, b)
				}
				last = b
			}
		}
	}
}

// P12.3 and P2: a further level gives bounds within those before.
func TestFurtherLevel(t *testing.T) {
	for _, l := range rightOnes() {
		for _, levels := range divisions(l) {
			first, last := levels[0], levels[len(levels)-1]
			for x := first; x < last; x += 1 + (last-first)/23 {
				i, there := slices.BinarySearch(levels, x)
				if there || len(levels) == api.MaxMarks {
					continue
				}
				more := slices.Insert(slices.Clone(levels), i, x)
				if before, behind := between(t, l, levels), between(t, l, more); !within(behind, before) {
					t.Fatal(l, levels, x, before, behind)
				}
				before, behind := sumsOf(t, l, levels), slices.Delete(sumsOf(t, l, more), i-1, i)
				for k := range before {
					if !within(behind[k], before[k]) {
						t.Fatal(l, levels, x, before, behind)
					}
				}
			}
		}
	}
}

// P12.3: between 0 and the length the bounds overlap with those of the full space.
func TestFullOverlaps(t *testing.T) {
	for _, l := range rightOnes() {
		full, _ := capacity.Space(l)
		for n := 1; n <= api.MaxStrips; n++ {
			levels, _ := standing.Levels(l, lengthOf(l), n)
			if b := between(t, l, levels); b.Low > full.High || b.High < full.Low {
				t.Fatal(l, n, b, full)
			}
		}
	}
}

// P12.3: a cylinder has the same sums with any levels.
func TestCylinder(t *testing.T) {
	for _, r := range []int{1, 3, 500, most - 1, most} {
		for _, l := range [][]api.Point{points(0, r, 100, r), points(0, r, 33, r, 100, r), points(0, r, 1, r, most, r)} {
			full, _ := capacity.Space(l)
			for _, levels := range divisions(l) {
				for i, b := range sumsOf(t, l, levels) {
					if want := 3 * r * r * (levels[i+1] - levels[0]); b != bounds(want, want) {
						t.Fatal(l, levels, i, b, want)
					}
				}
				if b := between(t, l, levels); levels[0] == 0 && levels[len(levels)-1] == lengthOf(l) && b != full {
					t.Fatal(l, levels, b, full)
				}
			}
		}
	}
}

// A cask that is turned has the same bounds between the turned levels.
func TestTurned(t *testing.T) {
	for _, l := range rightOnes() {
		turned, _ := profile.Turn(l)
		for _, levels := range divisions(l) {
			back := slices.Clone(levels)
			slices.Reverse(back)
			for i := range back {
				back[i] = lengthOf(l) - back[i]
			}
			if one, other := between(t, l, levels), between(t, turned, back); one != other {
				t.Fatal(l, levels, one, other)
			}
		}
	}
}

// Arguments are not changed, nor is what lies behind them in the same memory; results share no memory.
func TestArgumentsStay(t *testing.T) {
	l, levels := barrel().Profile, []int{0, 500, 1000, 7}
	c := of(l)
	standing.Check(c, levels[:3])
	between(t, l, levels[:3])
	clear(sumsOf(t, l, levels[:3]))
	up, _ := standing.Levels(l, 800, 3)
	clear(up)
	standing.Wet(c, 800, 3)
	if !slices.Equal(l, barrel().Profile) || !slices.Equal(levels, []int{0, 500, 1000, 7}) {
		t.Error(l, levels)
	}
}

// P1: no function panics, for all arguments.
func TestNoPanic(t *testing.T) {
	some := []int{math.MinInt, -1, 0, 1, 64, 65, api.MaxMarks, most, most + 1, math.MaxInt}
	for _, a := range some {
		for _, b := range some {
			standing.Levels(barrel().Profile, a, b)
			standing.Wet(barrel(), a, b)
			for _, c := range some {
				standing.Levels(points(0, a, b, c), a, b)
				standing.Levels(points(a, b, c, b), a, b)
				standing.Wet(of(points(0, a, b, c)), b, c)
				standing.Check(barrel(), []int{a, b, c})
				standing.Between(barrel(), []int{a, b, c})
				standing.Sums(barrel(), []int{a, b, c})
				standing.Sums(of(points(0, a, b, c)), []int{0, a, b})
				standing.Between(of(points(a, b, c, b)), []int{a, c})
			}
		}
	}
}
