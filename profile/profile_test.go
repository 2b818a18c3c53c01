package profile_test

import (
	"math"
	"slices"
	"testing"

	"spile/api"
	"spile/profile"
)

const most = api.MaxLength

// noLengths are numbers that no X, no radius and no thickness can have.
var noLengths = []int{-1, most + 1, math.MinInt, math.MaxInt}

// points returns points with the X and the radii that follow one another.
func points(l ...int) []api.Point {
	var all []api.Point
	for i := 0; i < len(l); i += 2 {
		all = append(all, api.Point{X: l[i], Radius: l[i+1]})
	}
	return all
}

// barrel is the profile of the examples of the document.
func barrel() []api.Point {
	return points(0, 300, 500, 400, 1000, 300)
}

// row returns a profile with many points, the last one with another radius.
func row(n, step, radius, last int) []api.Point {
	l := make([]api.Point, n)
	for i := range l {
		l[i] = api.Point{X: i * step, Radius: radius}
	}
	l[n-1].Radius = last
	return l
}

// rightOnes are profiles that are right: short and long, cylinders, cones, steep ones, with and without integer radii.
func rightOnes() [][]api.Point {
	return [][]api.Point{
		barrel(),
		points(0, 1, 1, 1),
		points(0, 1, 1, 2),
		points(0, 2, 1, 1),
		points(0, 5, 10, 5),
		points(0, 3, 7, 5),
		points(0, 5, 7, 3),
		points(0, 1, 100, 90, 101, 90, 150, 1),
		points(0, 7, 3, 8, 9, 8, 10, 20, 13, 20, 31, 5, 32, 5),
		points(0, 282, 490, 380, 980, 282),
		points(0, 1, most, most),
		points(0, most, most, 1),
		points(0, most, most, most),
		points(0, 1, 49999, most, 50000, most, most, 1),
		points(0, 99999, 99999, most, most, 99999),
		row(api.MaxPoints, 2, 9, 8),
		row(api.MaxPoints, 3, 9, 11),
		row(api.MaxPoints, 3225, most, most),
	}
}

// faulty are lists of points with the first fault of each.
func faulty() []struct {
	l    []api.Point
	want api.Errno
} {
	return []struct {
		l    []api.Point
		want api.Errno
	}{
		{nil, api.ErrEmpty},
		{[]api.Point{}, api.ErrEmpty},
		{points(0, 5), api.ErrEmpty},
		{points(-1, 0), api.ErrEmpty},
		{row(api.MaxPoints+1, 1, 5, 5), api.ErrTooLarge},
		{row(api.MaxPoints+1, 0, -1, 0), api.ErrTooLarge},
		{points(0, -1, 5, 5), api.ErrRange},
		{points(0, 5, 5, -1), api.ErrRange},
		{points(-1, 5, 5, 5), api.ErrRange},
		{points(0, 5, -1, 5), api.ErrRange},
		{points(0, 5, most+1, 5), api.ErrRange},
		{points(0, most+1, 5, 5), api.ErrRange},
		{points(0, 5, 5, most+1), api.ErrRange},
		{points(0, 5, math.MinInt, 5), api.ErrRange},
		{points(0, 5, 5, math.MaxInt), api.ErrRange},
		{points(1, 0, 1, 5, 2, -1), api.ErrRange},
		{points(0, 5, 1, 4, 2, most+1), api.ErrRange},
		{points(1, 5, 5, 5), api.ErrOrder},
		{points(0, 5, 0, 5), api.ErrOrder},
		{points(0, 5, 5, 5, 5, 5), api.ErrOrder},
		{points(0, 5, 5, 5, 4, 5), api.ErrOrder},
		{points(0, 5, 5, 5, 0, 5), api.ErrOrder},
		{points(1, 0, 5, 5), api.ErrOrder},
		{points(0, 0, 5, 5, 5, 4, 6, 5), api.ErrOrder},
		{points(0, 5, 5, 4, 6, 5, 6, 5), api.ErrOrder},
		{points(0, 0, 5, 5), api.ErrZero},
		{points(0, 5, 5, 0), api.ErrZero},
		{points(0, 5, 5, 0, 10, 5), api.ErrZero},
		{points(0, 5, 5, 4, 6, 5, 7, 0), api.ErrZero},
		{points(0, 5, 5, 4, 10, 5), api.ErrMismatch},
		{points(0, 5, 5, 4, 10, 4, 15, 5), api.ErrMismatch},
		{points(0, 5, 1, 6, 2, 5, 3, 4, 4, 4, 5, 5, 6, 1), api.ErrMismatch},
		{points(0, most, 1, most-1, 2, most), api.ErrMismatch},
		{row(api.MaxPoints, 1, 5, 5)[1:], api.ErrOrder},
	}
}

// fault returns the first fault of a profile, place by place.
func fault(l []api.Point) api.Errno {
	var found [24]bool
	for i, p := range l {
		found[api.ErrRange] = found[api.ErrRange] || p.X < 0 || p.X > most || p.Radius < 0 || p.Radius > most
		found[api.ErrOrder] = found[api.ErrOrder] || i == 0 && p.X != 0 || i > 0 && p.X <= l[i-1].X
		found[api.ErrZero] = found[api.ErrZero] || p.Radius == 0
		for j := range i {
			for k := range j {
				// The radius has become less from k to j, and is greater again at i.
				found[api.ErrMismatch] = found[api.ErrMismatch] || l[k].Radius > l[j].Radius && l[j].Radius < p.Radius
			}
		}
	}
	for _, e := range []api.Errno{api.ErrRange, api.ErrOrder, api.ErrZero, api.ErrMismatch} {
		if found[e] {
			return e
		}
	}
	return api.OK
}

// small calls a function with all lists of 2 to 4 points with small numbers, right and wrong ones.
func small(f func(l []api.Point)) {
	var extend func(l []api.Point)
	extend = func(l []api.Point) {
		if len(l) >= 2 {
			f(l)
		}
		if len(l) == 4 {
			return
		}
		for x := -1; x <= 4; x++ {
			for radius := range 5 {
				extend(append(l, api.Point{X: x, Radius: radius}))
			}
		}
	}
	extend(nil)
}

// radius returns the exact radius of a right profile at x, as a fraction.
func radius(l []api.Point, x int) (int, int) {
	i := 1
	for l[i].X < x {
		i++
	}
	p, q := l[i-1], l[i]
	return p.Radius*(q.X-p.X) + (q.Radius-p.Radius)*(x-p.X), q.X - p.X
}

// some are places of a profile: all of a short one, and the points and some others of a long one.
func some(l []api.Point) []int {
	length := l[len(l)-1].X
	if length <= 2000 {
		places := make([]int, length+1)
		for x := range places {
			places[x] = x
		}
		return places
	}
	var places []int
	for x := 0; x <= length; x += 773 {
		places = append(places, x)
	}
	for _, p := range l {
		places = append(places, p.X, max(p.X-1, 0), min(p.X+1, length))
	}
	return places
}

// at returns the bounds of the radius of a right profile.
func at(t *testing.T, l []api.Point, x int) api.Bounds {
	t.Helper()
	b, e := profile.At(l, x)
	if e != api.OK {
		t.Fatal(l, x, e)
	}
	return b
}

// P8.1: all faults, each one alone and before those that are named later.
func TestCheck(t *testing.T) {
	for _, x := range faulty() {
		before := slices.Clone(x.l)
		if got := profile.Check(x.l); got != x.want || !slices.Equal(x.l, before) {
			t.Error(x, got)
		}
	}
	for _, l := range rightOnes() {
		if e := profile.Check(l); e != api.OK {
			t.Error(l, e)
		}
	}
}

// P8.1: all short lists of small numbers, against the definition.
func TestCheckSmall(t *testing.T) {
	right := 0
	small(func(l []api.Point) {
		want := fault(l)
		if got := profile.Check(l); got != want {
			t.Fatal(l, got, want)
		}
		if want == api.OK {
			right++
		}
	})
	if right == 0 {
		t.Error("no profile is right")
	}
}

// P8.1: the length, and the first point with the greatest radius.
func TestLengthAndBung(t *testing.T) {
	for _, x := range []struct {
		l            []api.Point
		length, bung int
	}{
		{barrel(), 1000, 1},
		{points(0, 5, 10, 5), 10, 0},
		{points(0, 5, 10, 5, 20, 5), 20, 0},
		{points(0, 5, 10, 7, 20, 7, 30, 6), 30, 1},
		{points(0, 5, 10, 5, 20, 7), 20, 2},
		{points(0, 7, 10, 5, 20, 5), 20, 0},
		{points(0, 1, most, most), most, 1},
		{row(api.MaxPoints, 3, 9, 11), 93, 31},
	} {
		if got, e := profile.Length(x.l); got != x.length || e != api.OK {
			t.Error("Length", x, got, e)
		}
		if got, e := profile.Bung(x.l); got != x.bung || e != api.OK {
			t.Error("Bung", x, got, e)
		}
	}
	small(func(l []api.Point) {
		if fault(l) != api.OK {
			return
		}
		length, e := profile.Length(l)
		bung, f := profile.Bung(l)
		if length != l[len(l)-1].X || e != api.OK || f != api.OK {
			t.Fatal(l, length, bung, e, f)
		}
		for i, p := range l {
			if p.Radius > l[bung].Radius || p.Radius == l[bung].Radius && i < bung {
				t.Fatal(l, bung)
			}
		}
	})
}

// P8.1 and P8.2: the first fault is returned as it is by functions of a profile alone.
func TestFaultsAreReturned(t *testing.T) {
	check := func(l []api.Point, want api.Errno) {
		t.Helper()
		if got, e := profile.Length(l); got != 0 || e != want {
			t.Error("Length", l, got, e)
		}
		if got, e := profile.Bung(l); got != 0 || e != want {
			t.Error("Bung", l, got, e)
		}
		if got, e := profile.Turn(l); len(got) != 0 || e != want {
			t.Error("Turn", l, got, e)
		}
	}
	for _, x := range faulty() {
		check(x.l, x.want)
	}
}

// P8.1 and P8.2: any fault is ErrArg where there is a place or a thickness, too, and comes before those of them.
func TestFaultsComeFirst(t *testing.T) {
	for _, x := range faulty() {
		for _, n := range []int{0, 1, 5, -1, most, most + 1, math.MinInt, math.MaxInt} {
			if got, e := profile.At(x.l, n); got != (api.Bounds{}) || e != api.ErrArg {
				t.Error("At", x, n, got, e)
			}
			if got, e := profile.Insert(x.l, n); len(got) != 0 || e != api.ErrArg {
				t.Error("Insert", x, n, got, e)
			}
			if got, e := profile.Inside(x.l, n, 1); len(got) != 0 || e != api.ErrArg {
				t.Error("Inside", x, n, got, e)
			}
			if got, e := profile.Inside(x.l, 1, n); len(got) != 0 || e != api.ErrArg {
				t.Error("Inside", x, n, got, e)
			}
		}
	}
}

// P8.1: the example of the document, points, both directions, both ends, and the longest profile.
func TestAtExamples(t *testing.T) {
	for _, x := range []struct {
		l            []api.Point
		x, low, high int
	}{
		{barrel(), 3, 300, 301},
		{barrel(), 0, 300, 300},
		{barrel(), 5, 301, 301},
		{barrel(), 499, 399, 400},
		{barrel(), 500, 400, 400},
		{barrel(), 501, 399, 400},
		{barrel(), 505, 399, 399},
		{barrel(), 997, 300, 301},
		{barrel(), 1000, 300, 300},
		{points(0, 5, 10, 5), 7, 5, 5},
		{points(0, 1, most, most), 1, 1, 2},
		{points(0, 1, most, most), most - 1, most - 1, most},
		{points(0, most, most, 1), 1, most - 1, most},
		{points(0, most, most, 1), most - 1, 1, 2},
		{points(0, 1, 1, most), 0, 1, 1},
		{points(0, 1, 1, most), 1, most, most},
	} {
		if got, e := profile.At(x.l, x.x); got != (api.Bounds{Low: x.low, High: x.high}) || e != api.OK {
			t.Error(x, got, e)
		}
	}
}

// P8.1: profiles of all kinds, against the exact radius.
func TestAt(t *testing.T) {
	check := func(l []api.Point) {
		t.Helper()
		for _, x := range some(l) {
			got := at(t, l, x)
			n, d := radius(l, x)
			if got.Low*d > n || (got.Low+1)*d <= n || got.High*d < n || (got.High-1)*d >= n {
				t.Fatal(l, x, got, n, d)
			}
		}
	}
	for _, l := range rightOnes() {
		check(l)
	}
	small(func(l []api.Point) {
		if fault(l) == api.OK {
			check(l)
		}
	})
}

// P8.1 and P8.2: what is no place of a profile.
func TestNoPlace(t *testing.T) {
	for _, l := range rightOnes() {
		for _, x := range []int{-1, l[len(l)-1].X + 1, most + 1, math.MinInt, math.MaxInt} {
			if got, e := profile.At(l, x); got != (api.Bounds{}) || e != api.ErrRange {
				t.Error("At", l, x, got, e)
			}
			if got, e := profile.Insert(l, x); len(got) != 0 || e != api.ErrRange {
				t.Error("Insert", l, x, got, e)
			}
		}
	}
}

// P8.3: up to the bung the radius does not get smaller, and behind it not greater.
func TestRadiusOrder(t *testing.T) {
	for _, l := range rightOnes() {
		bung, _ := profile.Bung(l)
		places := some(l)
		slices.Sort(places)
		for i, x := range places[1:] {
			before, behind := at(t, l, places[i]), at(t, l, x)
			if x <= l[bung].X && (behind.Low < before.Low || behind.High < before.High) {
				t.Fatal("smaller", l, x, before, behind)
			}
			if places[i] >= l[bung].X && (behind.Low > before.Low || behind.High > before.High) {
				t.Fatal("greater", l, x, before, behind)
			}
		}
	}
}

// P8.2 and P8.3: turning, and turning twice; the radii are those of the places from the other head.
func TestTurn(t *testing.T) {
	got, e := profile.Turn(points(0, 5, 10, 7, 15, 7, 100, 1))
	if !slices.Equal(got, points(0, 1, 85, 7, 90, 7, 100, 5)) || e != api.OK {
		t.Error(got, e)
	}
	for _, l := range rightOnes() {
		before := slices.Clone(l)
		turned, e := profile.Turn(l)
		if profile.Check(turned) != api.OK || e != api.OK {
			t.Fatal(l, turned, e)
		}
		length := l[len(l)-1].X
		for _, x := range some(l) {
			if at(t, l, x) != at(t, turned, length-x) {
				t.Fatal(l, turned, x)
			}
		}
		if twice, e := profile.Turn(turned); !slices.Equal(twice, before) || e != api.OK {
			t.Fatal(l, twice, e)
		}
		clear(turned)
		if !slices.Equal(l, before) {
			t.Fatal("changed", l)
		}
	}
}

// P8.2: the example of the document, no thickness, points that fall away, and heads that leave the least length.
func TestInsideExamples(t *testing.T) {
	for _, x := range []struct {
		l             []api.Point
		staves, heads int
		want          []api.Point
	}{
		{barrel(), 20, 10, points(0, 282, 490, 380, 980, 282)},
		{barrel(), 0, 0, barrel()},
		{barrel(), 299, 0, points(0, 1, 500, 101, 1000, 1)},
		{barrel(), 0, 3, points(0, 300, 497, 400, 994, 300)},
		{barrel(), 0, 499, points(0, 399, 1, 400, 2, 399)},
		{barrel(), 301, 10, points(0, 1, 490, 99, 980, 1)},
		{barrel(), 300, 5, points(0, 1, 495, 100, 990, 1)},
		{points(0, 5, 9, 5), 0, 4, points(0, 5, 1, 5)},
		{points(0, 5, 10, 9, 20, 9, 30, 5), 1, 10, points(0, 8, 10, 8)},
		{points(0, 5, 10, 9, 20, 9, 30, 5), 1, 9, points(0, 7, 1, 8, 11, 8, 12, 7)},
		{points(0, 5, 10, 9, 20, 9, 30, 5), 1, 11, points(0, 8, 8, 8)},
		{points(0, 5, 10, 9, 20, 9, 31, 5), 1, 15, points(0, 8, 1, 8)},
		{points(0, 3, 7, 5), 2, 3, points(0, 1, 1, 2)},
		{points(0, 5, 7, 3), 2, 3, points(0, 2, 1, 1)},
		{points(0, most, most, most), most - 1, 49999, points(0, 1, 2, 1)},
		{points(0, most, 99999, most), 0, 49999, points(0, most, 1, most)},
		{row(api.MaxPoints, 2, 9, 9), 8, 0, row(api.MaxPoints, 2, 1, 1)},
		{row(api.MaxPoints, 2, 9, 9), 8, 1, append(points(0, 1), inner(30)...)},
	} {
		before := slices.Clone(x.l)
		got, e := profile.Inside(x.l, x.staves, x.heads)
		if !slices.Equal(got, x.want) || e != api.OK {
			t.Error(x, got, e)
		}
		clear(got)
		if !slices.Equal(x.l, before) {
			t.Error("changed", x)
		}
	}
}

// inner returns the points behind the first one of the inner profile of 32 points, 2 apart, with heads of 1.
func inner(n int) []api.Point {
	var l []api.Point
	for i := range n {
		l = append(l, api.Point{X: 2*i + 1, Radius: 1})
	}
	return append(l, api.Point{X: 2 * n, Radius: 1})
}

// P8.2: the inner profile has no length (whatever its radii would be), or a fault.
func TestInsideRefuses(t *testing.T) {
	check := func(l []api.Point, staves, heads int, want api.Errno) {
		t.Helper()
		if got, e := profile.Inside(l, staves, heads); len(got) != 0 || e != want {
			t.Error(l, staves, heads, got, e)
		}
	}
	for _, x := range noLengths {
		check(barrel(), x, 10, api.ErrRange)
		check(barrel(), 20, x, api.ErrRange)
		check(barrel(), x, 500, api.ErrRange)
		check(barrel(), 400, x, api.ErrRange)
	}
	check(barrel(), 20, 500, api.ErrOrder)
	check(barrel(), 20, 501, api.ErrOrder)
	check(barrel(), 20, most, api.ErrOrder)
	check(barrel(), most, 500, api.ErrOrder)
	check(barrel(), 400, most, api.ErrOrder)
	check(points(0, 5, 9, 5), 0, 5, api.ErrOrder)
	check(points(0, 5, 1, 5), 0, 1, api.ErrOrder)
	// Some radius is negative, or none is but some are 0.
	check(barrel(), 300, 0, api.ErrZero)
	check(barrel(), 301, 0, api.ErrRange)
	check(barrel(), 302, 10, api.ErrZero)
	check(barrel(), 303, 10, api.ErrRange)
	check(barrel(), 300, 4, api.ErrZero)
	check(barrel(), most, 0, api.ErrRange)
	check(points(0, 5, 9, 7), 6, 0, api.ErrRange)
	check(points(0, 5, 9, 6), 6, 0, api.ErrRange)
	check(points(0, 6, 9, 5), 6, 0, api.ErrRange)
	check(points(0, 5, 9, 7), 5, 0, api.ErrZero)
	check(points(0, 5, 9, 5), 5, 0, api.ErrZero)
}

// inside returns the inner profile by the definition, and the error of an inner profile.
func inside(l []api.Point, staves, heads int) ([]api.Point, api.Errno) {
	last := l[len(l)-1].X - heads
	if last <= heads {
		return nil, api.ErrOrder
	}
	var in []api.Point
	for x := heads; x <= last; x++ {
		if x == heads || x == last || slices.ContainsFunc(l, func(p api.Point) bool { return p.X == x }) {
			n, d := radius(l, x)
			in = append(in, api.Point{X: x - heads, Radius: n/d - staves})
		}
	}
	for _, p := range in {
		if p.Radius < 0 {
			return nil, api.ErrRange
		}
	}
	if e := fault(in); e != api.OK {
		return nil, e
	}
	return in, api.OK
}

// P8.2 and P8.3: profiles of all kinds, against the definition; no inner radius is greater than the outer one less the staves.
func TestInside(t *testing.T) {
	check := func(l []api.Point, staves, heads int) {
		t.Helper()
		want, f := inside(l, staves, heads)
		got, e := profile.Inside(l, staves, heads)
		if !slices.Equal(got, want) || e != f {
			t.Fatal(l, staves, heads, got, e, want, f)
		}
		if e != api.OK {
			return
		}
		for _, x := range some(got) {
			n, d := radius(got, x)
			outer, f := radius(l, x+heads)
			if n*f > (outer-staves*f)*d {
				t.Fatal(l, staves, heads, x)
			}
		}
	}
	for _, l := range rightOnes() {
		for _, staves := range []int{0, 1, 2, 4, 5, 8, 299, 300, most - 1, most} {
			for _, heads := range []int{0, 1, 2, 3, 5, 10, 31, 499, 500, most/2 - 1, most / 2, most} {
				check(l, staves, heads)
			}
		}
	}
	small(func(l []api.Point) {
		if fault(l) == api.OK {
			for staves := range 4 {
				for heads := range 3 {
					check(l, staves, heads)
				}
			}
		}
	})
}

// P8.2: points that lie on a profile, close to its ends too, up to as many as are allowed.
func TestInsertExamples(t *testing.T) {
	full := row(api.MaxPoints, 2, 9, 9)
	for _, x := range []struct {
		l    []api.Point
		x    int
		want []api.Point
	}{
		{barrel(), 5, points(0, 300, 5, 301, 500, 400, 1000, 300)},
		{barrel(), 495, points(0, 300, 495, 399, 500, 400, 1000, 300)},
		{barrel(), 505, points(0, 300, 500, 400, 505, 399, 1000, 300)},
		{barrel(), 995, points(0, 300, 500, 400, 995, 301, 1000, 300)},
		{points(0, 5, 10, 5), 1, points(0, 5, 1, 5, 10, 5)},
		{points(0, 5, 10, 5), 9, points(0, 5, 9, 5, 10, 5)},
		{full[:31], 1, append(points(0, 9, 1, 9), full[1:31]...)},
		{full[:31], 59, append(slices.Clone(full[:30]), points(59, 9, 60, 9)...)},
	} {
		before := slices.Clone(x.l)
		got, e := profile.Insert(x.l, x.x)
		if !slices.Equal(got, x.want) || e != api.OK {
			t.Error(x, got, e)
		}
		clear(got)
		if !slices.Equal(x.l, before) {
			t.Error("changed", x)
		}
	}
}

// P8.2: a point with the X comes before a radius that is no integer, and this before too many points.
func TestInsertRefuses(t *testing.T) {
	full, cone := row(api.MaxPoints, 2, 9, 9), row(api.MaxPoints, 2, 9, 8)
	for _, x := range []struct {
		l    []api.Point
		x    int
		want api.Errno
	}{
		{barrel(), 0, api.ErrTwice},
		{barrel(), 500, api.ErrTwice},
		{barrel(), 1000, api.ErrTwice},
		{barrel(), 3, api.ErrMismatch},
		{barrel(), 999, api.ErrMismatch},
		{points(0, 1, most, most), 1, api.ErrMismatch},
		{full, 0, api.ErrTwice},
		{full, 30, api.ErrTwice},
		{full, 62, api.ErrTwice},
		{cone, 61, api.ErrMismatch},
		{cone, 59, api.ErrFull},
		{full, 1, api.ErrFull},
		{full, 61, api.ErrFull},
		{full, 63, api.ErrRange},
	} {
		if got, e := profile.Insert(x.l, x.x); len(got) != 0 || e != x.want {
			t.Error(x, got, e)
		}
	}
}

// P8.2 and P8.3: points at all places that have an integer radius; they change no radius.
func TestInsert(t *testing.T) {
	check := func(l []api.Point) {
		t.Helper()
		before := slices.Clone(l)
		for _, x := range some(l) {
			got, e := profile.Insert(l, x)
			n, d := radius(l, x)
			switch {
			case slices.ContainsFunc(l, func(p api.Point) bool { return p.X == x }):
				if e != api.ErrTwice {
					t.Fatal(l, x, got, e)
				}
			case n%d != 0:
				if e != api.ErrMismatch {
					t.Fatal(l, x, got, e)
				}
			case len(l) == api.MaxPoints:
				if e != api.ErrFull {
					t.Fatal(l, x, got, e)
				}
			case e != api.OK || len(got) != len(l)+1 || profile.Check(got) != api.OK || !slices.Contains(got, api.Point{X: x, Radius: n / d}):
				t.Fatal(l, x, got, e)
			default:
				for _, y := range append([]int{x, x - 1, x + 1}, some(l)[:min(len(some(l)), 20)]...) {
					if at(t, got, y) != at(t, l, y) {
						t.Fatal(l, x, y)
					}
				}
			}
		}
		if !slices.Equal(l, before) {
			t.Fatal("changed", l)
		}
	}
	for _, l := range rightOnes() {
		check(l)
	}
	small(func(l []api.Point) {
		if fault(l) == api.OK {
			check(l)
		}
	})
}

// Arguments are not changed, nor is what lies behind them in the same memory.
func TestArgumentsStay(t *testing.T) {
	l := append(barrel(), api.Point{X: 7, Radius: 7}, api.Point{X: 8, Radius: 8})
	before := slices.Clone(l)
	profile.Turn(l[:3])
	profile.Insert(l[:3], 5)
	profile.Insert(l[:3], 995)
	profile.Inside(l[:3], 20, 10)
	profile.At(l[:3], 10)
	profile.Bung(l[:3])
	if !slices.Equal(l, before) {
		t.Error(l)
	}
}

// P1: no function panics, for all arguments.
func TestNoPanic(t *testing.T) {
	all := []int{math.MinInt, -most, -1, 0, 1, 2, most - 1, most, most + 1, math.MaxInt}
	for _, a := range all {
		for _, b := range all {
			profile.At(barrel(), a)
			profile.Insert(barrel(), a)
			profile.Inside(barrel(), a, b)
			profile.Inside(nil, a, b)
			for _, c := range all {
				for _, d := range all {
					l := points(0, b, c, d)
					profile.Check(l)
					profile.Length(l)
					profile.Bung(l)
					profile.Turn(l)
					profile.At(l, a)
					profile.Insert(l, a)
					profile.Inside(l, a, b)
				}
			}
		}
	}
}
