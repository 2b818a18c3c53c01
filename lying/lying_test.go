package lying_test

import (
	"math"
	"math/big"
	"slices"
	"testing"

	"spile/api"
	"spile/capacity"
	"spile/lying"
	"spile/profile"
	"spile/segment"
)

const (
	most       = api.MaxLength
	mostHeight = 2 * most
	mostPlaces = api.MaxStrips + 1
)

// noCounts are numbers into which nothing can be divided.
var noCounts = []int{0, -1, api.MaxStrips + 1, math.MinInt, math.MaxInt}

// points returns points with the X and the radii that follow one another.
func points(l ...int) []api.Point {
	var all []api.Point
	for i := 0; i < len(l); i += 2 {
		all = append(all, api.Point{X: l[i], Radius: l[i+1]})
	}
	return all
}

// of returns a lying cask with a profile.
func of(l []api.Point) api.Cask {
	return api.Cask{Name: "A-1", Position: api.Lying, Profile: l, Declared: 500}
}

// barrel is the cask of the example of layer 9.
func barrel() api.Cask {
	return of(points(0, 300, 500, 400, 1000, 300))
}

// with returns a barrel that was changed.
func with(change func(c *api.Cask)) api.Cask {
	c := barrel()
	change(&c)
	return c
}

// row returns a profile with the most points, the last one with another radius.
func row(step, radius, last int) []api.Point {
	l := make([]api.Point, api.MaxPoints)
	for i := range l {
		l[i] = api.Point{X: i * step, Radius: radius}
	}
	l[api.MaxPoints-1].Radius = last
	return l
}

// rightOnes are profiles that are right: short and long, cylinders, cones, steep ones, with and without integer radii.
func rightOnes() [][]api.Point {
	return [][]api.Point{
		barrel().Profile,
		points(0, 5, 10, 5),
		points(0, 1, 1, 1),
		points(0, 1, 1, 2),
		points(0, 2, 1, 1),
		points(0, 3, 7, 5),
		points(0, 5, 7, 3),
		points(0, 1, 100, 90, 101, 90, 150, 1),
		points(0, 7, 3, 8, 9, 8, 10, 20, 13, 20, 31, 5, 32, 5),
		points(0, 5000, 8000, 6000, 16000, 5000),
		points(0, 1, most, most),
		points(0, most, most, 1),
		points(0, most, most, most),
		points(0, 1, 49999, most, 50000, most, most, 1),
		row(2, 9, 8),
		row(3225, most, most-1),
	}
}

// faultyCasks are casks with a fault of each kind, some of them not lying.
func faultyCasks() []api.Cask {
	l := []api.Cask{
		{},
		with(func(c *api.Cask) { c.Name = "" }),
		with(func(c *api.Cask) { c.Name, c.Position = "ä", api.Standing }),
		with(func(c *api.Cask) { c.Position = 0 }),
		with(func(c *api.Cask) { c.Position = 3 }),
		with(func(c *api.Cask) { c.Declared = -1 }),
		with(func(c *api.Cask) { c.Declared, c.Position = api.MaxVolume+1, api.Standing }),
	}
	for _, profile := range faultyProfiles() {
		l = append(l, of(profile), with(func(c *api.Cask) { c.Profile, c.Position = profile, api.Standing }))
	}
	return l
}

// faultyProfiles are lists of points with a fault of each kind.
func faultyProfiles() [][]api.Point {
	return [][]api.Point{
		nil,
		points(0, 5),
		make([]api.Point, api.MaxPoints+1),
		points(0, 5, most+1, 5),
		points(0, -1, 5, 5),
		points(1, 5, 5, 5),
		points(0, 5, 5, 5, 5, 5),
		points(0, 5, 5, 0),
		points(0, 5, 1, 4, 2, 5),
	}
}

// standing is a right cask that is not lying.
func standing() api.Cask {
	return with(func(c *api.Cask) { c.Position = api.Standing })
}

// bounds returns bounds.
func bounds(low, high int) api.Bounds {
	return api.Bounds{Low: low, High: high}
}

// all returns all places and heights of a small cask.
func all(last int) []int {
	var l []int
	for i := range last + 1 {
		l = append(l, i)
	}
	return l
}

// lengthOf returns the length of a profile.
func lengthOf(l []api.Point) int {
	return l[len(l)-1].X
}

// greatest returns the greatest radius of a profile.
func greatest(l []api.Point) int {
	r := 0
	for _, p := range l {
		r = max(r, p.Radius)
	}
	return r
}

// radius returns the radius at x as a fraction, whose denominator is positive.
func radius(l []api.Point, x int) *big.Rat {
	for i, q := range l[1:] {
		if p := l[i]; x <= q.X {
			rise := big.NewRat(int64(q.Radius-p.Radius)*int64(x-p.X), int64(q.X-p.X))
			return rise.Add(rise, big.NewRat(int64(p.Radius), 1))
		}
	}
	return nil
}

// down returns a number rounded down, and up one rounded up.
func down(r *big.Rat) int {
	return int(new(big.Int).Div(r.Num(), r.Denom()).Int64())
}

func up(r *big.Rat) int {
	return -down(new(big.Rat).Neg(r))
}

// chord returns the bounds of a chord by Go's library.
func chord(r, y int) api.Bounds {
	if y > r || y < -r {
		return api.Bounds{}
	}
	n := big.NewInt(int64(r*r - y*y))
	root := new(big.Int).Sqrt(n)
	b := bounds(2*int(root.Int64()), 2*int(root.Int64()))
	if new(big.Int).Mul(root, root).Cmp(n) != 0 {
		b.High += 2
	}
	return b
}

// strip returns the bounds of the area of a circle from a to b, by the definition.
func strip(r, centre, a, b int) api.Bounds {
	bottom, top := chord(r, a-centre), chord(r, b-centre)
	greater := max(bottom.High, top.High)
	if a <= centre && centre <= b {
		greater = 2 * r
	}
	return bounds((b-a)*min(bottom.Low, top.Low), (b-a)*greater)
}

// reference returns the bounds of the spaces of all strips, by the definition.
func reference(l []api.Point, places, heights []int) []api.Bounds {
	spaces := make([]api.Bounds, len(heights)-1)
	for k := range len(places) - 1 {
		p, q := radius(l, places[k]), radius(l, places[k+1])
		lesser, greater := min(down(p), down(q)), max(up(p), up(q))
		for i := range spaces {
			length := places[k+1] - places[k]
			spaces[i].Low += length * strip(lesser, greatest(l), heights[i], heights[i+1]).Low
			spaces[i].High += length * strip(greater, greatest(l), heights[i], heights[i+1]).High
		}
	}
	return spaces
}

// sum returns the sum of bounds.
func sum(l ...api.Bounds) api.Bounds {
	var total api.Bounds
	for _, b := range l {
		total.Low += b.Low
		total.High += b.High
	}
	return total
}

// folds returns the places of the m-fold slices, by the definition.
func folds(l []api.Point, m int) []int {
	var places []int
	for i, q := range l[1:] {
		p := l[i]
		for k := range m + 1 {
			places = append(places, p.X+k*(q.X-p.X)/m)
		}
	}
	slices.Sort(places)
	return slices.Compact(places)
}

// divisions are places of many kinds that are right for a profile.
func divisions(l []api.Point) [][]int {
	var only []int
	for _, p := range l {
		only = append(only, p.X)
	}
	several := [][]int{only}
	for _, m := range []int{1, 2, 3, 7, 64} {
		if places := folds(l, m); len(places) <= mostPlaces {
			several = append(several, places)
		}
	}
	uneven := []int{1, 2, lengthOf(l) / 3, lengthOf(l) - 2, lengthOf(l) - 1}
	uneven = slices.DeleteFunc(uneven, func(x int) bool { return x <= 0 || x >= lengthOf(l) })
	uneven = append(uneven, only...)
	slices.Sort(uneven)
	return append(several, slices.Compact(uneven))
}

// levels are heights of many kinds for a cask: even and uneven, far and close, equal ones, beyond the cask too.
func levels(l []api.Point) [][]int {
	r := greatest(l)
	several := [][]int{
		{0, 0}, {0, 2 * r}, {0, r, 2 * r}, {0, mostHeight}, {r, r, r}, {r / 2, r, r + r/3}, {2 * r, mostHeight},
		{0, 1, 2 * r}, {0, 2*r - 1, 2 * r}, {r - 1, r, r + 1}, {mostHeight, mostHeight},
	}
	for _, n := range []int{3, 7, 64} {
		heights, _ := segment.Heights(2*r, n)
		several = append(several, heights)
	}
	return several
}

// between returns the bounds between heights for places that are right.
func between(t *testing.T, c api.Cask, places, heights []int) api.Bounds {
	t.Helper()
	b, e := lying.Between(c, places, heights)
	if e != api.OK {
		t.Fatal(c, places, heights, e)
	}
	return b
}

// below returns the area of a circle around the height 0 up to a height, but for small errors.
func below(r, y float64) float64 {
	y = max(-r, min(y, r))
	return y*math.Sqrt(r*r-y*y) + r*r*math.Asin(y/r) + r*r*math.Pi/2
}

// exact returns the space of a cask between two heights, but for small errors.
func exact(l []api.Point, from, to int) float64 {
	const parts = 400
	axis, total := greatest(l), 0.0
	for i, q := range l[1:] {
		p := l[i]
		for k := range parts {
			r := float64(p.Radius) + float64(q.Radius-p.Radius)*(float64(k)+0.5)/parts
			total += (below(r, float64(to-axis)) - below(r, float64(from-axis))) * float64(q.X-p.X) / parts
		}
	}
	return total
}

// encloses reports whether bounds enclose a space, but for small errors.
func encloses(b api.Bounds, space float64) bool {
	slack := 1 + 1e-4*space
	return float64(b.Low) <= space+slack && space <= float64(b.High)+slack
}

// P11.1: even and uneven divisions, pieces that are shorter than m, and as many places as are allowed.
func TestSlicesExamples(t *testing.T) {
	for _, x := range []struct {
		l    []api.Point
		m    int
		want []int
	}{
		{points(0, 5, 10, 5), 1, []int{0, 10}},
		{points(0, 5, 10, 5), 3, []int{0, 3, 6, 10}},
		{points(0, 5, 10, 5), 10, all(10)},
		{points(0, 5, 10, 5), 11, all(10)},
		{points(0, 5, 10, 5), 64, all(10)},
		{points(0, 5, 3, 5, 10, 5), 2, []int{0, 1, 3, 6, 10}},
		{points(0, 5, 1, 5, 10, 5), 4, []int{0, 1, 3, 5, 7, 10}},
		{points(0, 5, 1, 5), 64, []int{0, 1}},
		{points(0, 5, 64, 5), 64, all(64)},
		{points(0, 5, 65, 5), 64, folds(points(0, 5, 65, 5), 64)},
		{points(0, 5, 32, 5, 64, 5), 64, all(64)},
		{points(0, 5, 40, 5, 80, 5), 32, folds(points(0, 5, 40, 5, 80, 5), 32)},
		{row(2, 9, 8), 64, all(62)},
		{row(3225, 9, 8), 2, folds(row(3225, 9, 8), 2)},
		{points(0, 1, most, most), 3, []int{0, 33333, 66666, most}},
		{barrel().Profile, 2, []int{0, 250, 500, 750, 1000}},
	} {
		if got, e := lying.Slices(x.l, x.m); !slices.Equal(got, x.want) || e != api.OK {
			t.Error(x, got, e)
		}
	}
}

// P11.1: profiles of all kinds and all m, against the definition; the places are right.
func TestSlices(t *testing.T) {
	for _, l := range rightOnes() {
		before := slices.Clone(l)
		for m := 1; m <= api.MaxStrips; m++ {
			want := folds(l, m)
			got, e := lying.Slices(l, m)
			if len(want) > mostPlaces {
				if len(got) != 0 || e != api.ErrLimit {
					t.Fatal(l, m, got, e)
				}
				continue
			}
			if !slices.Equal(got, want) || e != api.OK || lying.Check(of(l), got) != api.OK {
				t.Fatal(l, m, got, want, e)
			}
		}
		if !slices.Equal(l, before) {
			t.Fatal("changed", l)
		}
	}
}

// P11.1: a profile that is not right comes first, then m, and then too many places.
func TestSlicesRefuses(t *testing.T) {
	check := func(l []api.Point, m int, want api.Errno) {
		t.Helper()
		if got, e := lying.Slices(l, m); len(got) != 0 || e != want {
			t.Error(l, m, got, e)
		}
	}
	for _, l := range faultyProfiles() {
		for _, m := range append([]int{1, 5}, noCounts...) {
			check(l, m, api.ErrArg)
		}
	}
	for _, m := range noCounts {
		check(barrel().Profile, m, api.ErrRange)
		check(row(3225, 9, 8), m, api.ErrRange)
	}
	check(barrel().Profile, 33, api.ErrLimit)
	check(barrel().Profile, 64, api.ErrLimit)
	check(row(3225, 9, 8), 3, api.ErrLimit)
	check(points(0, 5, 33, 5, 66, 5), 33, api.ErrLimit)
	check(points(0, 5, 1, 5, 66, 5), 64, api.ErrLimit)
}

// placesFault is the first error of places for a barrel.
type placesFault struct {
	places []int
	want   api.Errno
}

// placesFaults are places with the first error of each for a barrel, whose points are at 0, 500 and 1000.
func placesFaults() []placesFault {
	many := folds(barrel().Profile, 32)
	return []placesFault{
		{nil, api.ErrEmpty},
		{[]int{}, api.ErrEmpty},
		{[]int{0}, api.ErrEmpty},
		{[]int{1000}, api.ErrEmpty},
		{[]int{-1}, api.ErrEmpty},
		{append([]int{0, 1}, many[1:]...), api.ErrTooLarge},
		{make([]int, mostPlaces+1), api.ErrTooLarge},
		{make([]int, mostPlaces), api.ErrOrder},
		{[]int{0, 0}, api.ErrOrder},
		{[]int{0, 1001}, api.ErrOrder},
		{[]int{0, 999}, api.ErrOrder},
		{[]int{1, 1000}, api.ErrOrder},
		{[]int{-1, 500, 1000}, api.ErrOrder},
		{[]int{-1, 0, 500, 1000}, api.ErrOrder},
		{[]int{0, 500, 1000, 1001}, api.ErrOrder},
		{[]int{0, 500, 500, 1000}, api.ErrOrder},
		{[]int{0, 0, 500, 1000}, api.ErrOrder},
		{[]int{0, 500, 1000, 1000}, api.ErrOrder},
		{[]int{0, 500, 499, 1000}, api.ErrOrder},
		{[]int{0, 1000, 500}, api.ErrOrder},
		{[]int{0, 500, 1001, 1000}, api.ErrOrder},
		{[]int{0, 700, 600, 1000}, api.ErrOrder},
		{[]int{0, math.MaxInt, math.MinInt, 1000}, api.ErrOrder},
		{[]int{math.MinInt, math.MaxInt}, api.ErrOrder},
		{[]int{1000, 500, 0}, api.ErrOrder},
		{[]int{0, 1000}, api.ErrNotFound},
		{[]int{0, 499, 1000}, api.ErrNotFound},
		{[]int{0, 499, 501, 1000}, api.ErrNotFound},
	}
}

// P11.1: the first error of places that the document names, wherever it stands; places that are right.
func TestCheck(t *testing.T) {
	for _, x := range placesFaults() {
		before := slices.Clone(x.places)
		if got := lying.Check(barrel(), x.places); got != x.want || !slices.Equal(x.places, before) {
			t.Error(x, got)
		}
	}
	for _, places := range [][]int{{0, 500, 1000}, {0, 1, 500, 1000}, {0, 499, 500, 501, 1000}, folds(barrel().Profile, 32)} {
		if got := lying.Check(barrel(), places); got != api.OK {
			t.Error(places, got)
		}
	}
	for _, x := range []placesFault{
		{[]int{0, 3, 9, 10, 13, 31, 32}, api.OK},
		{all(32), api.OK},
		{[]int{0, 9, 10, 13, 31, 32}, api.ErrNotFound},
		{[]int{0, 3, 9, 10, 13, 32}, api.ErrNotFound},
		{[]int{0, 3, 9, 10, 12, 14, 31, 32}, api.ErrNotFound},
	} {
		if got := lying.Check(of(points(0, 7, 3, 8, 9, 8, 10, 20, 13, 20, 31, 5, 32, 5)), x.places); got != x.want {
			t.Error(x, got)
		}
	}
}

// P11.1 and P11.2: a fault of the cask comes first, then that it is not lying, whatever the rest is.
func TestCasksAreRefused(t *testing.T) {
	check := func(c api.Cask, want api.Errno) {
		t.Helper()
		for _, places := range [][]int{{0, 500, 1000}, {0}, nil, make([]int, mostPlaces+1), {0, 1000}, {5, 4}} {
			if got := lying.Check(c, places); got != want {
				t.Error("Check", c, places, got)
			}
			for _, heights := range [][]int{{0, 5}, {5, 0}, {-1, 5}, nil, make([]int, mostPlaces+1)} {
				if got, e := lying.Between(c, places, heights); got != (api.Bounds{}) || e != want {
					t.Error("Between", c, places, heights, got, e)
				}
				if got, e := lying.Strips(c, places, heights); len(got) != 0 || e != want {
					t.Error("Strips", c, places, heights, got, e)
				}
			}
		}
		for _, x := range [][3]int{{0, 1, 1}, {5, 1, 1}, {-1, 1, 1}, {0, 0, 1}, {0, 1, 0}, {0, 64, 64}, {math.MaxInt, 65, 65}} {
			if got, e := lying.Wet(c, x[0], x[1], x[2]); got != (api.Bounds{}) || e != want {
				t.Error("Wet", c, x, got, e)
			}
			if got, e := lying.Dry(c, x[0], x[1], x[2]); got != (api.Bounds{}) || e != want {
				t.Error("Dry", c, x, got, e)
			}
		}
	}
	for _, c := range faultyCasks() {
		check(c, api.ErrArg)
	}
	check(standing(), api.ErrMismatch)
}

// P11.1: the errors of places come first, and then those of heights.
func TestBetweenRefuses(t *testing.T) {
	check := func(places, heights []int, want api.Errno) {
		t.Helper()
		if got, e := lying.Between(barrel(), places, heights); got != (api.Bounds{}) || e != want {
			t.Error("Between", places, heights, got, e)
		}
		if got, e := lying.Strips(barrel(), places, heights); len(got) != 0 || e != want {
			t.Error("Strips", places, heights, got, e)
		}
	}
	heightsFaults := []placesFault{
		{nil, api.ErrEmpty},
		{[]int{5}, api.ErrEmpty},
		{make([]int, mostPlaces+1), api.ErrTooLarge},
		{[]int{0, mostHeight + 1}, api.ErrRange},
		{[]int{-1, 5}, api.ErrRange},
		{[]int{5, 0, -1}, api.ErrRange},
		{[]int{5, 0}, api.ErrOrder},
		{[]int{0, 5, 4}, api.ErrOrder},
	}
	for _, y := range heightsFaults {
		check([]int{0, 500, 1000}, y.places, y.want)
		for _, x := range placesFaults() {
			check(x.places, y.places, x.want)
		}
	}
	for _, x := range placesFaults() {
		check(x.places, []int{0, 5}, x.want)
	}
}

// P11.1: the examples of the document, a cone, and the greatest cask.
func TestExamples(t *testing.T) {
	cylinder, cone := of(points(0, 5, 10, 5)), of(points(0, 3, 7, 5))
	for _, x := range []struct {
		c               api.Cask
		places, heights []int
		want            api.Bounds
	}{
		{cylinder, []int{0, 10}, []int{0, 5, 10}, bounds(0, 1000)},
		{cylinder, []int{0, 10}, []int{0, 2, 5, 8, 10}, bounds(480, 920)},
		{cylinder, []int{0, 3, 4, 10}, []int{0, 2, 5, 8, 10}, bounds(480, 920)},
		{cylinder, []int{0, 10}, []int{0, 0}, bounds(0, 0)},
		{cylinder, []int{0, 10}, []int{10, mostHeight}, bounds(0, 0)},
		// The circle with the radius 3 lies between 2 and 8; it is 6 wide at 5, and between 4 and 6 wide at 4 and 6.
		{cone, []int{0, 7}, []int{2, 5}, bounds(0, 7*3*10)},
		{cone, []int{0, 7}, []int{5, 8}, bounds(0, 7*3*10)},
		{cone, []int{0, 7}, []int{4, 6}, bounds(7*2*4, 7*2*10)},
		// At 3 the radius lies between 3 and 4.
		{cone, []int{0, 3, 7}, []int{4, 6}, bounds(7*2*4, 3*2*8+4*2*10)},
		{of(points(0, most, most, most)), []int{0, most}, []int{0, mostHeight}, bounds(0, most*mostHeight*mostHeight)},
		{of(points(0, most, most, most)), []int{0, most}, []int{0, most, mostHeight}, bounds(0, most*mostHeight*mostHeight)},
	} {
		if got := between(t, x.c, x.places, x.heights); got != x.want {
			t.Error(x, got)
		}
	}
	if got, e := lying.Strips(cylinder, []int{0, 10}, []int{0, 2, 5, 8, 10}); !slices.Equal(got, []api.Bounds{bounds(0, 160), bounds(240, 300), bounds(240, 300), bounds(0, 160)}) || e != api.OK {
		t.Error(got, e)
	}
}

// P11.1 and P11.3: casks, places and heights of all kinds, against the definition; the bounds between heights are the sums of all strips.
func TestBetween(t *testing.T) {
	for _, l := range rightOnes() {
		before := slices.Clone(l)
		for _, places := range divisions(l) {
			for _, heights := range levels(l) {
				want := reference(l, places, heights)
				strips, e := lying.Strips(of(l), places, heights)
				if !slices.Equal(strips, want) || e != api.OK {
					t.Fatal("Strips", l, places, heights, strips, want, e)
				}
				if got := between(t, of(l), places, heights); got != sum(want...) {
					t.Fatal("Between", l, places, heights, got, want)
				}
			}
		}
		if !slices.Equal(l, before) {
			t.Fatal("changed", l)
		}
	}
}

// P11.1: all small cones between all heights, against the definition.
func TestSmallCones(t *testing.T) {
	for a := 1; a < 7; a++ {
		for b := 1; b < 7; b++ {
			for length := 1; length < 5; length++ {
				l := points(0, a, length, b)
				for m := 1; m <= length; m++ {
					places := folds(l, m)
					for low := range 15 {
						for high := low; high < 15; high++ {
							want := reference(l, places, []int{low, high})
							if got := between(t, of(l), places, []int{low, high}); got != want[0] {
								t.Fatal(l, places, low, high, got, want)
							}
						}
					}
				}
			}
		}
	}
}

// dips returns dips of a cask.
func dips(l []api.Point) []int {
	depth := 2 * greatest(l)
	return []int{0, 1, depth / 5, depth/2 - 1, depth / 2, depth/2 + 1, depth - depth/7, depth - 1, depth}
}

// counts are numbers of slices and strips.
var counts = []int{1, 2, 5, 32, 64}

// P11.2: the example of the document, both ends, and depths that n does not divide.
func TestWetAndDryExamples(t *testing.T) {
	// At the heights 0, 1, 2 and 5 this cylinder is exactly 0, 6, 8 and 10 wide, at 3 and 4 between 8 and 10.
	cylinder := of(points(0, 5, 10, 5))
	for _, x := range []struct {
		dip, m, n int
		wet, dry  api.Bounds
	}{
		{5, 1, 5, bounds(300, 440), bounds(300, 440)},
		{5, 64, 5, bounds(300, 440), bounds(300, 440)},
		{5, 1, 1, bounds(0, 500), bounds(0, 500)},
		{0, 1, 1, bounds(0, 0), bounds(0, 1000)},
		{0, 1, 5, bounds(0, 0), bounds(480, 920)},
		{10, 1, 1, bounds(0, 1000), bounds(0, 0)},
		{10, 1, 5, bounds(480, 920), bounds(0, 0)},
		{7, 1, 2, bounds(320, 700), bounds(80, 260)},
		{7, 3, 3, bounds(400, 660), bounds(140, 240)},
		{9, 1, 64, bounds(600, 820), bounds(0, 60)},
	} {
		if got, e := lying.Wet(cylinder, x.dip, x.m, x.n); got != x.wet || e != api.OK {
			t.Error("Wet", x, got, e)
		}
		if got, e := lying.Dry(cylinder, x.dip, x.m, x.n); got != x.dry || e != api.OK {
			t.Error("Dry", x, got, e)
		}
	}
}

// heights returns the heights of n strips between two heights, by the definition.
func heights(from, to, n int) []int {
	var l []int
	for i := range n + 1 {
		l = append(l, from+i*(to-from)/n)
	}
	return l
}

// P11.2: casks and dips of all kinds, against the definition; the exact spaces lie between the bounds.
func TestWetAndDry(t *testing.T) {
	for _, l := range rightOnes() {
		before := slices.Clone(l)
		depth := 2 * greatest(l)
		for _, dip := range dips(l) {
			low, high := exact(l, 0, dip), exact(l, dip, depth)
			for _, m := range counts {
				places := folds(l, m)
				if len(places) > mostPlaces {
					continue
				}
				for _, n := range counts {
					wet, e := lying.Wet(of(l), dip, m, n)
					if wet != sum(reference(l, places, heights(0, dip, n))...) || !encloses(wet, low) || e != api.OK {
						t.Fatal("Wet", l, dip, m, n, wet, low, e)
					}
					dry, e := lying.Dry(of(l), dip, m, n)
					if dry != sum(reference(l, places, heights(dip, depth, n))...) || !encloses(dry, high) || e != api.OK {
						t.Fatal("Dry", l, dip, m, n, dry, high, e)
					}
				}
			}
		}
		if !slices.Equal(l, before) {
			t.Fatal("changed", l)
		}
	}
}

// P11.2: what is out of range comes before too many places.
func TestWetAndDryRefuse(t *testing.T) {
	check := func(dip, m, n int, want api.Errno) {
		t.Helper()
		if got, e := lying.Wet(barrel(), dip, m, n); got != (api.Bounds{}) || e != want {
			t.Error("Wet", dip, m, n, got, e)
		}
		if got, e := lying.Dry(barrel(), dip, m, n); got != (api.Bounds{}) || e != want {
			t.Error("Dry", dip, m, n, got, e)
		}
	}
	for _, dip := range []int{-1, 801, 1000, math.MinInt, math.MaxInt} {
		check(dip, 1, 1, api.ErrRange)
		check(dip, 33, 1, api.ErrRange)
		check(dip, 0, 0, api.ErrRange)
	}
	for _, n := range noCounts {
		check(400, n, 1, api.ErrRange)
		check(400, 1, n, api.ErrRange)
		check(400, 33, n, api.ErrRange)
		check(0, n, n, api.ErrRange)
	}
	check(400, 33, 1, api.ErrLimit)
	check(0, 64, 64, api.ErrLimit)
	check(800, 64, 64, api.ErrLimit)
}

// within reports whether bounds lie within others.
func within(inner, outer api.Bounds) bool {
	return outer.Low <= inner.Low && inner.Low <= inner.High && inner.High <= outer.High
}

// P11.3 and P2: more places give bounds within those before.
func TestMorePlaces(t *testing.T) {
	for _, l := range rightOnes() {
		for _, places := range divisions(l) {
			if len(places) == mostPlaces {
				continue
			}
			for x := 1; x < lengthOf(l); x += 1 + lengthOf(l)/23 {
				i, there := slices.BinarySearch(places, x)
				if there {
					continue
				}
				more := slices.Insert(slices.Clone(places), i, x)
				for _, heights := range levels(l)[:9] {
					before, behind := between(t, of(l), places, heights), between(t, of(l), more, heights)
					if !within(behind, before) {
						t.Fatal(l, places, x, heights, before, behind)
					}
				}
			}
		}
	}
}

// P11.3 and P2: refined heights, and each height more, give bounds within those before.
func TestMoreHeights(t *testing.T) {
	for _, l := range rightOnes() {
		places := divisions(l)[0]
		for _, heights := range levels(l) {
			before := between(t, of(l), places, heights)
			if refined, e := segment.Refine(heights); e == api.OK {
				if behind := between(t, of(l), places, refined); !within(behind, before) {
					t.Fatal(l, heights, before, behind)
				}
			}
			if len(heights) == mostPlaces {
				continue
			}
			for height := heights[0]; height < heights[len(heights)-1]; height += 1 + heights[len(heights)-1]/13 {
				i, _ := slices.BinarySearch(heights, height)
				more := slices.Insert(slices.Clone(heights), max(i, 1), height)
				if behind := between(t, of(l), places, more); !within(behind, before) {
					t.Fatal(l, heights, height, before, behind)
				}
			}
		}
	}
}

// P11.3: wet and dry space together overlap with the full space.
func TestWetAndDryOverlap(t *testing.T) {
	for _, l := range rightOnes() {
		full, _ := capacity.Space(l)
		for _, dip := range dips(l) {
			for _, m := range counts {
				if len(folds(l, m)) > mostPlaces {
					continue
				}
				for _, n := range counts {
					wet, _ := lying.Wet(of(l), dip, m, n)
					dry, _ := lying.Dry(of(l), dip, m, n)
					if both := sum(wet, dry); both.Low > full.High || both.High < full.Low || wet.Low > full.High || dry.Low > full.High {
						t.Fatal(l, dip, m, n, wet, dry, full)
					}
				}
			}
		}
	}
}

// P11.3: a cask that is turned has the same bounds with the turned places.
func TestTurned(t *testing.T) {
	for _, l := range rightOnes() {
		turned, _ := profile.Turn(l)
		for _, places := range divisions(l) {
			back := slices.Clone(places)
			slices.Reverse(back)
			for i := range back {
				back[i] = lengthOf(l) - back[i]
			}
			for _, heights := range levels(l) {
				if one, other := between(t, of(l), places, heights), between(t, of(turned), back, heights); one != other {
					t.Fatal(l, places, heights, one, other)
				}
			}
		}
	}
}

// Arguments are not changed, nor is what lies behind them in the same memory; results share no memory.
func TestArgumentsStay(t *testing.T) {
	l, places, heights := barrel().Profile, []int{0, 500, 1000, 7}, []int{0, 400, 800, 7}
	c := of(l)
	lying.Check(c, places[:3])
	between(t, c, places[:3], heights[:3])
	strips, _ := lying.Strips(c, places[:3], heights[:3])
	clear(strips)
	folded, _ := lying.Slices(l, 1)
	clear(folded)
	lying.Wet(c, 400, 1, 1)
	lying.Dry(c, 400, 1, 1)
	if !slices.Equal(l, barrel().Profile) || !slices.Equal(places, []int{0, 500, 1000, 7}) || !slices.Equal(heights, []int{0, 400, 800, 7}) {
		t.Error(l, places, heights)
	}
}

// P1: no function panics, for all arguments.
func TestNoPanic(t *testing.T) {
	some := []int{math.MinInt, -1, 0, 1, 64, 65, most, most + 1, mostHeight, mostHeight + 1, math.MaxInt}
	for _, a := range some {
		for _, b := range some {
			for _, c := range some {
				lying.Slices(points(0, a, b, c), a)
				lying.Wet(barrel(), a, b, c)
				lying.Dry(barrel(), a, b, c)
				lying.Wet(of(points(0, a, b, c)), a, b, c)
				lying.Dry(of(points(0, b, a, b)), a, b, c)
				lying.Check(of(points(0, 1, a, 1)), []int{a, b, c})
				lying.Between(barrel(), []int{0, 500, 1000}, []int{a, b, c})
				lying.Strips(barrel(), []int{0, 500, 1000}, []int{a, b, c})
				lying.Between(barrel(), []int{a, b, c}, []int{a, b})
				lying.Strips(of(points(0, 1, b, c)), []int{0, b}, []int{a, b})
				lying.Strips(of(points(a, b, c, a)), []int{a, c}, []int{a, b, c})
			}
		}
	}
}
