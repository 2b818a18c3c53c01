package dip_test

import (
	"math"
	"math/big"
	"slices"
	"testing"

	"spile/api"
	"spile/capacity"
	"spile/cask"
	"spile/dip"
	"spile/lying"
	"spile/standing"
)

const (
	most       = api.MaxLength
	mostHeight = 2 * most
	mostVolume = 4 * api.MaxVolume
	mostMarks  = api.MaxMarks
)

// extremes are numbers at and beyond all limits.
var extremes = []int{math.MinInt, -1, 0, 1, 2, 64, 65, 127, 128, 129, most, mostHeight, mostHeight + 1, mostVolume, mostVolume + 1, math.MaxInt}

// noCounts are numbers of slices into which nothing can be divided.
var noCounts = []int{0, -1, api.MaxStrips + 1, math.MinInt, math.MaxInt}

// points returns points with the X and the radii that follow one another.
func points(l ...int) []api.Point {
	var all []api.Point
	for i := 0; i < len(l); i += 2 {
		all = append(all, api.Point{X: l[i], Radius: l[i+1]})
	}
	return all
}

// laid returns a cask that is lying, and stood one that is standing.
func laid(l []api.Point) api.Cask {
	return api.Cask{Name: "A-1", Position: api.Lying, Profile: l, Declared: 500}
}

func stood(l []api.Point) api.Cask {
	return api.Cask{Name: "A-1", Position: api.Standing, Profile: l, Declared: 500}
}

// both returns the casks with a profile in both positions.
func both(l []api.Point) []api.Cask {
	return []api.Cask{laid(l), stood(l)}
}

// barrel is the profile of the example of layer 9: 800 deep as it lies, and 1000 as it stands.
func barrel() []api.Point {
	return points(0, 300, 500, 400, 1000, 300)
}

// row returns a profile with the most points, the last one with another radius.
func row(step, radius, last int) []api.Point {
	l := make([]api.Point, api.MaxPoints)
	for i := range l {
		l[i] = api.Point{X: i * step, Radius: radius}
	}
	l[api.MaxPoints-1].Radius = last
	return l
}

// profiles are profiles that are right: small and great, cylinders, cones, steep ones, with and without integer radii.
func profiles() [][]api.Point {
	return [][]api.Point{
		barrel(),
		points(0, 5, 10, 5),
		points(0, 1, 1, 1),
		points(0, 500, 10000, 500),
		points(0, 501, 7, 1009),
		points(0, 1009, 7, 501),
		points(0, 100, 1000, 900, 1001, 900, 1500, 1),
		points(0, 70, 30, 80, 90, 80, 100, 200, 130, 200, 310, 50, 320, 50),
		points(0, 3000, 4500, 3451, 9001, 3000),
		points(0, 1, most, most),
		points(0, most, most, 1),
		points(0, most, most, most),
		row(200, 900, 800),
		row(3225, most, most-1),
	}
}

// table returns a table with the heights and the volumes that follow one another.
func table(tolerance int, l ...int) api.Table {
	t := api.Table{Tolerance: tolerance}
	for i := 0; i < len(l); i += 2 {
		t.Marks = append(t.Marks, api.Mark{Height: l[i], Volume: l[i+1]})
	}
	return t
}

// marks returns n marks, each one a height and a volume above the one before.
func marks(n int) api.Table {
	var t api.Table
	for i := range n {
		t.Marks = append(t.Marks, api.Mark{Height: i, Volume: i})
	}
	return t
}

// equal reports whether two tables are equal.
func equal(a, b api.Table) bool {
	return a.Tolerance == b.Tolerance && slices.Equal(a.Marks, b.Marks)
}

// isZero reports whether a table is the zero value, or has no marks in another way.
func isZero(t api.Table) bool {
	return t.Tolerance == 0 && len(t.Marks) == 0
}

// rightTables are tables that are right: with flat and steep parts, not from 0 on, and up to the limits.
func rightTables() []api.Table {
	return []api.Table{
		table(2, 0, 0, 10, 100, 20, 250),
		table(0, 0, 0, 10, 100, 20, 100),
		table(0, 0, 0, 1, 0),
		table(0, 0, 7, 1, 9),
		table(0, 0, 0, 7, 3),
		table(0, 0, 0, 3, 7),
		table(5, 3, 4, 5, 4, 12, 9, 13, 30, 14, 30, 15, 30, 31, 33),
		table(0, 11, 100, 40, 100),
		table(1, 8, 0, 9, 0, 10, 1, 11, 1, 12, 2, 20, 2, 30, 3),
		table(mostVolume, 0, 0, 150, mostVolume),
		table(0, mostHeight-90, mostVolume-13, mostHeight, mostVolume),
		table(0, 0, 0, 17, 1, 34, 3, 51, 6, 68, 10, 85, 15, 102, 21),
		marks(mostMarks),
	}
}

// wrongTables are tables with an error of each kind.
func wrongTables() []api.Table {
	return []api.Table{
		{}, table(0, 0, 0), marks(mostMarks + 1),
		table(-1, 0, 0, 10, 100), table(mostVolume+1, 0, 0, 10, 100),
		table(0, -1, 0, 10, 100), table(0, 0, 0, mostHeight+1, 100),
		table(0, 0, -1, 10, 100), table(0, 0, 0, 10, mostVolume+1),
		table(0, 0, 0, 0, 100), table(0, 10, 0, 0, 100), table(0, 0, 5, 10, 4),
	}
}

// depthOf returns the depth of a right cask.
func depthOf(c api.Cask) int {
	depth, _ := cask.Depth(c)
	return depth
}

// even returns heights at equal distances up to a depth, each once.
func even(depth, n int) []int {
	var l []int
	for i := range n + 1 {
		l = append(l, i*depth/n)
	}
	return slices.Compact(l)
}

// uneven returns heights at distances that get greater, up to a depth, each once.
func uneven(depth, n int) []int {
	var l []int
	for i := range n + 1 {
		l = append(l, i*i*depth/n/n)
	}
	return slices.Compact(l)
}

// heightsOf are right heights of some kinds for a depth.
func heightsOf(depth int) [][]int {
	l := [][]int{{0, depth}, even(depth, 2), even(depth, 7), uneven(depth, 12), uneven(depth, 60), even(depth, 95)}
	if depth > 2 {
		l = append(l, []int{0, 1, depth}, []int{0, depth - 1, depth})
	}
	return l
}

// radius returns the radius of a profile at x.
func radius(l []api.Point, x int) *big.Rat {
	for i, q := range l[1:] {
		if p := l[i]; x <= q.X {
			rise := big.NewRat(int64(q.Radius-p.Radius)*int64(x-p.X), int64(q.X-p.X))
			return rise.Add(rise, big.NewRat(int64(p.Radius), 1))
		}
	}
	return nil
}

// down returns a number rounded down, and up one rounded up.
func down(r *big.Rat) int {
	return int(new(big.Int).Div(r.Num(), r.Denom()).Int64())
}

func up(r *big.Rat) int {
	return -down(new(big.Rat).Neg(r))
}

// times returns a number times a fraction.
func times(n, a, b int) *big.Rat {
	return new(big.Rat).Mul(big.NewRat(int64(n), 1), big.NewRat(int64(a), int64(b)))
}

// stripsUpTo returns the bounds of the space of a lying cask up to each height, by the definition with the strips of layer 11.
func stripsUpTo(c api.Cask, heights []int, m int) []api.Bounds {
	places, _ := lying.Slices(c.Profile, m)
	spaces := []api.Bounds{{}}
	for from := 0; from < len(heights)-1; from += api.MaxStrips {
		part := heights[from:min(len(heights), from+api.MaxStrips+1)]
		strips, _ := lying.Strips(c, places, part)
		for _, b := range strips {
			last := spaces[len(spaces)-1]
			spaces = append(spaces, api.Bounds{Low: last.Low + b.Low, High: last.High + b.High})
		}
	}
	return spaces
}

// levelsUpTo returns the bounds of the space of a standing cask up to each height, by the definitions of layers 10 and 12.
func levelsUpTo(c api.Cask, heights []int) []api.Bounds {
	isLevel := map[int]bool{}
	for _, h := range heights {
		isLevel[h] = true
	}
	for _, p := range c.Profile {
		isLevel[p.X] = true
	}
	spaces := []api.Bounds{{}}
	var sum api.Bounds
	before := 0
	for h := 1; h <= depthOf(c); h++ {
		if !isLevel[h] {
			continue
		}
		p, q := radius(c.Profile, before), radius(c.Profile, h)
		lesser, greater := min(down(p), down(q)), max(up(p), up(q))
		sum.Low += 3 * (h - before) * lesser * lesser
		sum.High += 3 * (h - before) * greater * greater
		before = h
		if slices.Contains(heights, h) {
			spaces = append(spaces, api.Bounds{Low: down(times(sum.Low, 333, 318)), High: up(times(sum.High, 355, 339))})
		}
	}
	return spaces
}

// reference returns the dipping table of a cask by the definition.
func reference(c api.Cask, heights []int, m int) api.Table {
	var spaces []api.Bounds
	if c.Position == api.Lying {
		spaces = stripsUpTo(c, heights, m)
	} else {
		spaces = levelsUpTo(c, heights)
	}
	var t api.Table
	for i, h := range heights {
		low, high := down(times(spaces[i].Low, 1, 1000000)), up(times(spaces[i].High, 1, 1000000))
		t.Marks = append(t.Marks, api.Mark{Height: h, Volume: low})
		t.Tolerance = max(t.Tolerance, high-low)
	}
	return t
}

// build returns the dipping table of a cask that has one.
func build(t *testing.T, c api.Cask, heights []int, m int) api.Table {
	t.Helper()
	table, e := dip.Build(c, heights, m)
	if e != api.OK {
		t.Fatal(c, heights, m, e)
	}
	return table
}

// P13.1: the example of the document, and tables that are computed by hand.
func TestBuildExamples(t *testing.T) {
	cylinder := points(0, 500, 10000, 500)
	for i, x := range []struct {
		c       api.Cask
		heights []int
		m       int
		want    api.Table
	}{
		{stood(cylinder), []int{0, 5000, 10000}, 1, table(1, 0, 0, 5000, 3926, 10000, 7853)},
		{stood(cylinder), []int{0, 10000}, 64, table(1, 0, 0, 10000, 7853)},
		// Chords at the heights 200 and 800 are 800, and 1000 at 500: strips from 0 to 1600, 2400 to 3000, 2400 to 3000, and 0 to 1600 millilitres.
		{laid(cylinder), []int{0, 200, 500, 800, 1000}, 1, table(4400, 0, 0, 200, 0, 500, 2400, 800, 4800, 1000, 4800)},
		{laid(cylinder), []int{0, 1000}, 1, table(10000, 0, 0, 1000, 0)},
		{laid(cylinder), []int{0, 500, 1000}, 7, table(10000, 0, 0, 500, 0, 1000, 0)},
		// A cone: the middle slices have the radii 150 to 200; pi / 3 times 3 * 1000 * (100^2 + 150^2) is 102.04, that of 150 and 200 is 196.3.
		{stood(points(0, 100, 2000, 200)), []int{0, 1000, 2000}, 1, table(95, 0, 0, 1000, 31, 2000, 102)},
		// The heights leave out the point at 500, but it is a level: the radii are 300, 400 and 300.
		{stood(barrel()), []int{0, 1000}, 1, table(221, 0, 0, 1000, 282)},
		{stood(barrel()), []int{0, 500, 1000}, 1, table(221, 0, 0, 500, 141, 1000, 282)},
		// Bounds that are whole millilitres already: the lower one is 333 at 106, the upper one 355 at 113.
		{stood(points(0, 1000, 106, 1000)), []int{0, 53, 106}, 1, table(1, 0, 0, 53, 166, 106, 333)},
		{stood(points(0, 1000, 113, 1000)), []int{0, 113}, 1, table(1, 0, 0, 113, 354)},
		// The upper bound of the space is 2039000001: one more than whole millilitres.
		{stood(points(0, 1863, 187, 1863)), []int{0, 187}, 1, table(2, 0, 0, 187, 2038)},
		{stood(points(0, 1, 1, 1)), []int{0, 1}, 1, table(1, 0, 0, 1, 0)},
		{laid(points(0, 1, 1, 1)), []int{0, 2}, 1, table(1, 0, 0, 2, 0)},
		// 2000 times a chord of 1000 times 500: each strip is 1000 millilitres, without any rounding.
		{laid(points(0, 500, 2000, 500)), []int{0, 500, 1000}, 1, table(2000, 0, 0, 500, 0, 1000, 0)},
		// The greatest casks.
		{stood(points(0, most, most, most)), []int{0, most}, 1, table(3141592921-3141509433, 0, 0, most, 3141509433)},
		{laid(points(0, most, most, most)), []int{0, mostHeight}, 1, table(4000000000, 0, 0, mostHeight, 0)},
	} {
		if got, e := dip.Build(x.c, x.heights, x.m); !equal(got, x.want) || e != api.OK {
			t.Error(i, got, e)
		}
	}
}

// P13.1: casks, heights and numbers of slices of all kinds, against the definition. P13.3: the tables are right, and are those of their casks.
func TestBuild(t *testing.T) {
	for _, l := range profiles() {
		for _, c := range both(l) {
			for _, heights := range heightsOf(depthOf(c)) {
				for _, m := range []int{1, 2, 13} {
					want := api.OK
					if places, _ := lying.Slices(l, m); len(places) == 0 && c.Position == api.Lying {
						want = api.ErrLimit
					}
					got, e := dip.Build(c, heights, m)
					if e != want {
						t.Fatal(c, heights, m, e)
					}
					if e != api.OK {
						continue
					}
					if !equal(got, reference(c, heights, m)) || dip.Check(got) != api.OK || dip.Verify(c, m, got) != api.OK {
						t.Fatal(c, heights, m, got)
					}
				}
			}
		}
	}
}

// P13.1: as many marks as there can be, and the number of slices of a standing cask changes nothing.
func TestBuildMost(t *testing.T) {
	for _, l := range [][]api.Point{points(0, 500, 10000, 700), points(0, 5, most, most), points(0, most, most, most-1)} {
		for _, c := range both(l) {
			heights := even(depthOf(c), mostMarks-1)
			if c.Position == api.Standing {
				for m := range api.MaxStrips {
					if got := build(t, c, heights, m+1); !equal(got, reference(c, heights, 1)) {
						t.Error(c, m+1, got)
					}
				}
				continue
			}
			for _, m := range []int{1, api.MaxStrips} {
				if got := build(t, c, heights, m); len(got.Marks) != mostMarks || !equal(got, reference(c, heights, m)) {
					t.Error(c, m, got)
				}
			}
		}
	}
}

// P13.1: there are more strips of a lying cask than layer 7 takes at once, and only their sum is rounded.
func TestManyStrips(t *testing.T) {
	c := laid(points(0, 64, 999, 64))
	heights := even(128, 127)
	got := build(t, c, heights, 1)
	last := got.Marks[len(got.Marks)-1]
	sum := 0
	for i := range len(heights) - 1 {
		strip, _ := lying.Between(c, []int{0, 999}, heights[i:i+2])
		sum += strip.Low
	}
	if last.Volume != sum/1000000 || last.Volume != 12 {
		t.Error(last, sum)
	}
}

// faultyCasks are casks with a fault of each kind, in both positions where they have one.
func faultyCasks() []api.Cask {
	var l []api.Cask
	for _, c := range both(barrel()) {
		nameless, distorted, tilted, boundless := c, c, c, c
		nameless.Name, distorted.Name, tilted.Position, boundless.Declared = "", "A 1", 3, api.MaxVolume+1
		l = append(l, nameless, distorted, tilted, boundless)
	}
	for _, profile := range [][]api.Point{
		nil, points(0, 5), make([]api.Point, api.MaxPoints+1), points(0, 5, most+1, 5), points(1, 5, 5, 5), points(0, 5, 5, 0), points(0, 5, 1, 4, 2, 5),
	} {
		l = append(l, both(profile)...)
	}
	return append(l, api.Cask{})
}

// refused checks that there is no table of a cask with heights.
func refused(t *testing.T, c api.Cask, heights []int, m int, want api.Errno) {
	t.Helper()
	before := slices.Clone(heights)
	if got, e := dip.Build(c, heights, m); !isZero(got) || e != want {
		t.Error("Build", c, heights, m, got, e)
	}
	if !slices.Equal(heights, before) {
		t.Error("changed", before, heights)
	}
	var wrong api.Table
	for _, h := range heights {
		wrong.Marks = append(wrong.Marks, api.Mark{Height: h, Volume: h})
	}
	for _, tolerance := range []int{0, -1, math.MaxInt} {
		wrong.Tolerance = tolerance
		if e := dip.Verify(c, m, wrong); e != want {
			t.Error("Verify", c, heights, m, e)
		}
	}
}

// P13.1: the errors of Build, and of Verify for the heights of the marks, in their order.
func TestBuildRefuses(t *testing.T) {
	tooMany := make([]int, mostMarks+1)
	all := [][]int{nil, {0}, tooMany, {0, 5, 5}, {1, 5}, {0, 800}, {0, 1000}, {0, 400, 800}}
	for _, c := range faultyCasks() {
		for _, heights := range all {
			for _, m := range append([]int{1}, noCounts...) {
				refused(t, c, heights, m, api.ErrArg)
			}
		}
	}
	for _, c := range both(barrel()) {
		for _, heights := range all {
			for _, m := range noCounts {
				refused(t, c, heights, m, api.ErrRange)
			}
		}
		d := depthOf(c)
		for _, m := range []int{1, api.MaxStrips} {
			for _, heights := range [][]int{nil, {}, {0}, {d}, {-1}} {
				refused(t, c, heights, m, api.ErrEmpty)
			}
			refused(t, c, tooMany, m, api.ErrTooLarge)
			refused(t, c, even(d, mostMarks), m, api.ErrTooLarge)
			for _, heights := range [][]int{
				{0, 0}, {0, d, d}, {0, 0, d}, {0, 5, 5, d}, {0, 6, 5, d}, {0, 5, 7, 6, d}, {d, 0},
				{1, d}, {-1, d}, {-1, 0, d}, {0, d - 1}, {0, d + 1}, {0, d, d + 1}, {0, d, 5}, {5, 0, d}, {0, 1800 - d},
				{math.MinInt, math.MaxInt}, {0, math.MaxInt}, make([]int, mostMarks),
			} {
				refused(t, c, heights, m, api.ErrOrder)
			}
		}
	}
}

// P13.1: too many slices of a lying cask, or levels of a standing one, but not one less; other errors come first.
func TestBuildLimits(t *testing.T) {
	for _, x := range []struct {
		l       []api.Point
		m, last int
	}{{row(200, 900, 800), 3, 2}, {barrel(), 33, 32}, {points(0, 50, 20, 50, 200, 50), 45, 44}} {
		c := laid(x.l)
		d := depthOf(c)
		for m := x.m; m <= api.MaxStrips; m++ {
			refused(t, c, []int{0, d}, m, api.ErrLimit)
			refused(t, c, []int{0, 1, d}, m, api.ErrLimit)
		}
		refused(t, c, []int{0, d - 1}, x.m, api.ErrOrder)
		refused(t, c, []int{0}, x.m, api.ErrEmpty)
		refused(t, c, []int{0, d}, api.MaxStrips+1, api.ErrRange)
		build(t, c, []int{0, d}, x.last)
	}
	// 32 points, of which 30 are between the ends: 98 heights with them are 128 levels.
	c := stood(row(200, 900, 800))
	apart := func(n int) []int {
		heights := []int{0}
		for i := range n - 2 {
			heights = append(heights, 1+20*i+i/9)
		}
		return append(heights, 6200)
	}
	fit := apart(98)
	if got := build(t, c, fit, 1); !equal(got, reference(c, fit, 1)) {
		t.Error(got)
	}
	for n := 99; n <= mostMarks; n++ {
		refused(t, c, apart(n), 1, api.ErrLimit)
		refused(t, c, apart(n), 0, api.ErrRange)
		refused(t, c, append(apart(n)[:n-1], 6199), 1, api.ErrOrder)
	}
	// Heights at which there are points need no further levels.
	all := slices.Insert(even(6200, 124), 1, 1, 2, 3)
	if got := build(t, c, all, 1); len(got.Marks) != mostMarks || !equal(got, reference(c, all, 1)) {
		t.Error(got)
	}
}

// firstError returns the first error of a table by the definition.
func firstError(l api.Table) api.Errno {
	if len(l.Marks) < 2 {
		return api.ErrEmpty
	}
	if len(l.Marks) > 128 {
		return api.ErrTooLarge
	}
	within := func(n, limit int) bool { return n >= 0 && n <= limit }
	if !within(l.Tolerance, 1<<32) {
		return api.ErrRange
	}
	for _, m := range l.Marks {
		if !within(m.Height, 200000) || !within(m.Volume, 1<<32) {
			return api.ErrRange
		}
	}
	for i := range len(l.Marks) - 1 {
		if l.Marks[i].Height >= l.Marks[i+1].Height || l.Marks[i].Volume > l.Marks[i+1].Volume {
			return api.ErrOrder
		}
	}
	return api.OK
}

// P13.1: the first error of tables of all kinds, and that of Read and Heights for them.
func TestCheck(t *testing.T) {
	for i, x := range []struct {
		l    api.Table
		want api.Errno
	}{
		{api.Table{}, api.ErrEmpty},
		{api.Table{Marks: []api.Mark{}, Tolerance: -1}, api.ErrEmpty},
		{table(0, -1, -1), api.ErrEmpty},
		{table(0, 0, 0), api.ErrEmpty},
		{marks(mostMarks + 1), api.ErrTooLarge},
		{api.Table{Marks: make([]api.Mark, mostMarks+1), Tolerance: -1}, api.ErrTooLarge},
		{api.Table{Marks: make([]api.Mark, mostMarks), Tolerance: -1}, api.ErrRange},
		{api.Table{Marks: make([]api.Mark, mostMarks)}, api.ErrOrder},
		{marks(mostMarks), api.OK},
		{marks(2), api.OK},
		{table(0, 0, 0, 1, 0), api.OK},
		{table(-1, 0, 0, 1, 0), api.ErrRange},
		{table(mostVolume+1, 0, 0, 1, 0), api.ErrRange},
		{table(mostVolume, 0, 0, 1, 0), api.OK},
		{table(0, -1, 0, 1, 0), api.ErrRange},
		{table(0, 0, -1, 1, 0), api.ErrRange},
		{table(0, 0, 0, mostHeight+1, 0), api.ErrRange},
		{table(0, 0, 0, 1, mostVolume+1), api.ErrRange},
		{table(0, mostHeight-1, mostVolume, mostHeight, mostVolume), api.OK},
		{table(0, 0, 0, 0, 0), api.ErrOrder},
		{table(0, 1, 0, 0, 5), api.ErrOrder},
		{table(0, 0, 1, 1, 0), api.ErrOrder},
		{table(0, 0, 0, 1, 5, 2, 4), api.ErrOrder},
		{table(0, 0, 0, 2, 5, 1, 6), api.ErrOrder},
		{table(0, 0, 0, 2, 5, 2, 6), api.ErrOrder},
		// What is out of range at a later mark comes before an order at an earlier one.
		{table(0, 5, 5, 5, 4, 6, -1), api.ErrRange},
		{table(0, 5, 5, 4, 6, mostHeight+1, 7), api.ErrRange},
		{table(0, math.MinInt, math.MaxInt, math.MaxInt, math.MinInt), api.ErrRange},
		{table(0, 3, 4, 5, 4, 12, 9), api.OK},
	} {
		before := slices.Clone(x.l.Marks)
		if got := dip.Check(x.l); got != x.want || got != firstError(x.l) || !slices.Equal(before, x.l.Marks) {
			t.Error(i, got)
		}
	}
	some := []int{-1, 0, 1, 2, 1000000}
	for _, a := range some {
		for _, b := range some {
			for _, c := range some {
				for _, d := range some {
					for _, l := range []api.Table{table(0, a, b, c, d), table(a, b, 1, c, d), table(b, a, c, d, 3, 7, 3), table(0, 0, 0, a, b, c, d)} {
						if got := dip.Check(l); got != firstError(l) {
							t.Fatal(l, got)
						}
					}
				}
			}
		}
	}
}

// verified is what Verify has to return for a table, by the definition.
func verified(c api.Cask, m int, l api.Table) api.Errno {
	var heights []int
	for _, mark := range l.Marks {
		heights = append(heights, mark.Height)
	}
	if _, e := dip.Build(c, heights, m); e != api.OK {
		return e
	}
	if !equal(l, reference(c, heights, m)) {
		return api.ErrProof
	}
	return api.OK
}

// P13.1: Verify is not OK for any other table, whatever is changed in it.
func TestVerifyFindsChanges(t *testing.T) {
	for _, c := range append(both(barrel()), both(points(0, 500, 10000, 500))...) {
		right := build(t, c, even(depthOf(c), 4), 3)
		check := func(want api.Errno, change func(l *api.Table)) {
			t.Helper()
			l := api.Table{Marks: slices.Clone(right.Marks), Tolerance: right.Tolerance}
			change(&l)
			before := slices.Clone(l.Marks)
			if e := dip.Verify(c, 3, l); e != want || e != verified(c, 3, l) || !slices.Equal(before, l.Marks) {
				t.Error(c, l, e)
			}
		}
		check(api.OK, func(l *api.Table) {})
		check(api.ErrEmpty, func(l *api.Table) { l.Marks = nil })
		check(api.ErrEmpty, func(l *api.Table) { l.Marks = l.Marks[:1] })
		check(api.ErrOrder, func(l *api.Table) { l.Marks = l.Marks[1:] })
		check(api.ErrOrder, func(l *api.Table) { l.Marks = l.Marks[:4] })
		check(api.ErrProof, func(l *api.Table) { l.Marks = slices.Insert(l.Marks, 1, api.Mark{Height: 1, Volume: mostVolume}) })
		for _, by := range []int{-1, 1, -mostVolume, mostVolume, math.MaxInt} {
			check(api.ErrProof, func(l *api.Table) { l.Tolerance += by })
			for i := range right.Marks {
				check(api.ErrProof, func(l *api.Table) { l.Marks[i].Volume += by })
			}
		}
		for _, by := range []int{-50, 50} {
			check(api.ErrOrder, func(l *api.Table) { l.Marks[0].Height += by })
			check(api.ErrProof, func(l *api.Table) { l.Marks[1].Height += by })
			check(api.ErrProof, func(l *api.Table) { l.Marks[3].Height += by })
			check(api.ErrOrder, func(l *api.Table) { l.Marks[4].Height += by })
		}
	}
	// More slices of a lying cask give another table, but those of a standing one change nothing.
	for _, c := range both(barrel()) {
		want := api.OK
		if c.Position == api.Lying {
			want = api.ErrProof
		}
		if e := dip.Verify(c, 2, build(t, c, even(depthOf(c), 4), 3)); e != want {
			t.Error(c, e)
		}
	}
}

// P13.1: where a height can be moved without any other volume, its table is right, too.
func TestVerifyMovedHeights(t *testing.T) {
	for _, l := range [][]api.Point{barrel(), points(0, 500, 10000, 500), points(0, 5, 10, 5)} {
		for _, c := range both(l) {
			right := build(t, c, even(depthOf(c), 4), 3)
			for i := range right.Marks {
				for by := -3; by <= 3; by++ {
					l := api.Table{Marks: slices.Clone(right.Marks), Tolerance: right.Tolerance}
					l.Marks[i].Height += by
					if e := dip.Verify(c, 3, l); e != verified(c, 3, l) {
						t.Error(c, l, e)
					}
				}
			}
		}
	}
}

// byDefinition returns the volume at a height of a right table by the definition.
func byDefinition(l api.Table, height int) int {
	for i, b := range l.Marks[1:] {
		if a := l.Marks[i]; height <= b.Height {
			rise := times(b.Volume-a.Volume, height-a.Height, b.Height-a.Height)
			return down(rise.Add(rise, big.NewRat(int64(a.Volume), 1)))
		}
	}
	return -1
}

// P13.2: the example of the document, and others.
func TestReadExamples(t *testing.T) {
	l := table(2, 0, 0, 10, 100, 20, 100)
	for _, x := range [][2]int{{0, 0}, {1, 10}, {3, 30}, {9, 90}, {10, 100}, {11, 100}, {20, 100}} {
		if got, e := dip.Read(l, x[0]); got != x[1] || e != api.OK {
			t.Error(x, got, e)
		}
	}
	l = table(0, 3, 4, 5, 5, 12, 9, 13, 30)
	for _, x := range [][2]int{{3, 4}, {4, 4}, {5, 5}, {6, 5}, {7, 6}, {8, 6}, {9, 7}, {10, 7}, {11, 8}, {12, 9}, {13, 30}} {
		if got, e := dip.Read(l, x[0]); got != x[1] || e != api.OK {
			t.Error(x, got, e)
		}
	}
	l = table(0, 0, 0, mostHeight, mostVolume)
	for _, x := range [][2]int{{1, 21474}, {mostHeight / 2, mostVolume / 2}, {mostHeight - 1, mostVolume - 21475}, {mostHeight, mostVolume}} {
		if got, e := dip.Read(l, x[0]); got != x[1] || e != api.OK {
			t.Error(x, got, e)
		}
	}
}

// P13.2: all heights of tables of all kinds, against the definition. P13.3: reading never decreases, and agrees with the marks.
func TestRead(t *testing.T) {
	for _, l := range rightTables() {
		first, last := l.Marks[0], l.Marks[len(l.Marks)-1]
		before := 0
		for h := first.Height; h <= last.Height; h++ {
			got, e := dip.Read(l, h)
			if got != byDefinition(l, h) || got < before || e != api.OK {
				t.Fatal(l, h, got, e)
			}
			before = got
		}
		for _, m := range l.Marks {
			if got, _ := dip.Read(l, m.Height); got != m.Volume {
				t.Error(l, m, got)
			}
		}
	}
}

// P13.2: a table that is not right, and heights that are out of range.
func TestReadRefuses(t *testing.T) {
	for _, l := range wrongTables() {
		for _, n := range extremes {
			if got, e := dip.Read(l, n); got != 0 || e != api.ErrArg {
				t.Error(l, n, got, e)
			}
			if got, e := dip.Heights(l, n); got != (api.Bounds{}) || e != api.ErrArg {
				t.Error(l, n, got, e)
			}
		}
	}
	for _, l := range rightTables() {
		first, last := l.Marks[0], l.Marks[len(l.Marks)-1]
		for _, h := range []int{first.Height - 1, last.Height + 1, math.MinInt, math.MaxInt} {
			if got, e := dip.Read(l, h); got != 0 || e != api.ErrRange {
				t.Error(l, h, got, e)
			}
		}
		for _, v := range []int{first.Volume - 1, last.Volume + 1, math.MinInt, math.MaxInt} {
			if got, e := dip.Heights(l, v); got != (api.Bounds{}) || e != api.ErrRange {
				t.Error(l, v, got, e)
			}
		}
	}
}

// P13.2: the example of the document, and others.
func TestHeightsExamples(t *testing.T) {
	for i, x := range []struct {
		l           api.Table
		volume      int
		least, most int
	}{
		{table(0, 0, 0, 10, 100, 20, 100), 100, 10, 20},
		{table(0, 0, 0, 10, 100, 20, 100), 35, 3, 3},
		{table(0, 0, 0, 10, 100, 20, 100), 30, 3, 3},
		{table(0, 0, 0, 10, 100, 20, 100), 0, 0, 0},
		{table(0, 0, 0, 10, 100, 20, 100), 9, 0, 0},
		{table(0, 0, 0, 10, 100, 20, 100), 99, 9, 9},
		{table(0, 5, 7, 6, 7), 7, 5, 6},
		{table(0, 5, 7, 6, 9), 8, 5, 5},
		{table(0, 5, 7, 6, 9), 9, 6, 6},
		{table(0, 5, 7, 6, 9), 7, 5, 5},
		{table(0, 0, 0, 30, 3), 1, 10, 19},
		{table(0, 0, 0, 30, 3, 40, 3, 50, 4), 3, 30, 49},
		{table(0, 0, 0, mostHeight, mostVolume), mostVolume, mostHeight, mostHeight},
		{table(0, 0, 0, mostHeight, mostVolume), mostVolume - 1, mostHeight - 1, mostHeight - 1},
		{table(0, 0, 0, mostHeight, 0), 0, 0, mostHeight},
		{table(0, 0, 0, mostHeight, 1), 0, 0, mostHeight - 1},
	} {
		if got, e := dip.Heights(x.l, x.volume); got != (api.Bounds{Low: x.least, High: x.most}) || e != api.OK {
			t.Error(i, got, e)
		}
	}
}

// P13.2: volumes of tables of all kinds, against the definition. P13.3: Heights and Read belong to each other.
func TestHeights(t *testing.T) {
	for _, l := range rightTables() {
		first, last := l.Marks[0], l.Marks[len(l.Marks)-1]
		step := max(1, (last.Volume-first.Volume)/1000)
		for v := first.Volume; v <= last.Volume; v += step {
			want := api.Bounds{Low: -1, High: -1}
			below := 0
			for h := first.Height; h <= last.Height; h++ {
				switch read := byDefinition(l, h); {
				case read == v && want.Low < 0:
					want = api.Bounds{Low: h, High: h}
				case read == v:
					want.High = h
				case read < v:
					below = h
				}
			}
			if want.Low < 0 {
				want = api.Bounds{Low: below, High: below}
			}
			if got, e := dip.Heights(l, v); got != want || e != api.OK {
				t.Fatal(l, v, got, want, e)
			}
		}
		for h := first.Height; h <= last.Height; h++ {
			v, _ := dip.Read(l, h)
			if got, e := dip.Heights(l, v); e != api.OK || h < got.Low || h > got.High {
				t.Fatal(l, h, v, got, e)
			}
		}
	}
}

// P13.2: heights at equal distances, against the definition, and what is out of range.
func TestEven(t *testing.T) {
	for _, depth := range []int{1, 2, 3, 10, 126, 127, 128, 129, 800, most, mostHeight - 1, mostHeight} {
		for n := 1; n <= min(depth, mostMarks-1); n++ {
			got, e := dip.Even(depth, n)
			if len(got) != n+1 || e != api.OK {
				t.Fatal(depth, n, got, e)
			}
			for i, h := range got {
				if h != down(times(depth, i, n)) || i > 0 && h <= got[i-1] {
					t.Fatal(depth, n, got)
				}
			}
		}
	}
	for _, x := range [][2]int{
		{0, 1}, {-1, 1}, {mostHeight + 1, 1}, {10, 0}, {10, -1}, {10, 11}, {1, 2}, {127, 128}, {128, 128}, {mostHeight, 128}, {0, 0},
		{mostHeight + 1, 127}, {math.MinInt, 5}, {math.MaxInt, 5}, {5, math.MinInt}, {5, math.MaxInt},
	} {
		if got, e := dip.Even(x[0], x[1]); len(got) != 0 || e != api.ErrRange {
			t.Error(x, got, e)
		}
	}
}

// wet returns the wet space of a cylinder up to a height in millilitres, but for small errors.
func wet(c api.Cask, h int) float64 {
	p, q := c.Profile[0], c.Profile[1]
	r, y := float64(p.Radius), float64(h-p.Radius)
	if c.Position == api.Standing {
		return math.Pi * r * r * float64(h) / 1e6
	}
	return float64(q.X) * (r*r*math.Acos(-y/r) + y*math.Sqrt(r*r-y*y)) / 1e6
}

// P13.3: at each mark the wet space lies between the Volume and the Volume with the Tolerance; at the last one the full space does.
func TestTablesEnclose(t *testing.T) {
	for _, l := range [][]api.Point{points(0, 500, 10000, 500), points(0, 3001, 9000, 3001), points(0, most, most, most), points(0, 70, 1000, 70)} {
		for _, c := range both(l) {
			for _, heights := range heightsOf(depthOf(c)) {
				got := build(t, c, heights, 1)
				for _, m := range got.Marks {
					space := wet(c, m.Height)
					slack := 1e-9 * space
					if space < float64(m.Volume)-slack || space > float64(m.Volume+got.Tolerance)+slack {
						t.Error(c, m, got.Tolerance, space)
					}
				}
			}
		}
	}
	for _, l := range profiles() {
		full, _ := capacity.Volume(laid(l))
		for _, c := range both(l) {
			got := build(t, c, even(depthOf(c), min(depthOf(c), 50)), 1)
			last := got.Marks[len(got.Marks)-1]
			if full.High < last.Volume || full.Low > last.Volume+got.Tolerance {
				t.Error(c, last, got.Tolerance, full)
			}
		}
	}
}

// Each mark of a table lies within the bounds of layers 11 and 12 for its dip, if these have the same heights.
func TestTablesAgreeWithDips(t *testing.T) {
	for _, l := range profiles() {
		c := stood(l)
		d := depthOf(c)
		levels, _ := standing.Levels(l, d, 7)
		space, _ := standing.Wet(c, d, 7)
		if got := build(t, c, levels, 1); got.Marks[len(levels)-1].Volume != space.Low/1000000 {
			t.Error(c, got, space)
		}
		c = laid(l)
		d = depthOf(c)
		space, _ = lying.Wet(c, d, 2, min(d, 60))
		if got := build(t, c, even(d, min(d, 60)), 2); got.Marks[len(got.Marks)-1].Volume != space.Low/1000000 {
			t.Error(c, got, space)
		}
	}
}

// Arguments are not changed, nor is what lies behind them in the same memory; results share no memory.
func TestArgumentsStay(t *testing.T) {
	for _, c := range both(barrel()) {
		d := depthOf(c)
		heights := []int{0, 100, d, 7}
		got := build(t, c, heights[:3], 2)
		kept := api.Table{Marks: slices.Clone(got.Marks), Tolerance: got.Tolerance}
		dip.Check(got)
		dip.Verify(c, 2, got)
		dip.Read(got, 50)
		dip.Heights(got, 50)
		if !equal(got, kept) || !slices.Equal(heights, []int{0, 100, d, 7}) || !slices.Equal(c.Profile, barrel()) {
			t.Error(got, kept, heights, c)
		}
		clear(got.Marks)
		if again := build(t, c, heights[:3], 2); !equal(again, kept) {
			t.Error(again, kept)
		}
	}
	one, _ := dip.Even(100, 5)
	clear(one)
	if other, _ := dip.Even(100, 5); !slices.Equal(other, []int{0, 20, 40, 60, 80, 100}) {
		t.Error(other)
	}
}

// P1: no function panics, for all arguments.
func TestNoPanic(t *testing.T) {
	for _, a := range extremes {
		for _, b := range extremes {
			dip.Even(a, b)
			for _, c := range append(both(barrel()), both(points(0, a, b, a))...) {
				dip.Build(c, []int{0, a, b}, 1)
				dip.Build(c, []int{a, b}, 2)
				dip.Build(c, []int{0, b}, a)
				dip.Verify(c, 1, table(a, 0, b, b, a))
			}
			for _, v := range extremes {
				l := table(0, 0, a, b, v)
				dip.Check(l)
				dip.Read(l, a)
				dip.Heights(l, v)
				dip.Heights(table(a, a, b, v, v, b, v), b)
			}
		}
	}
}
