package segment_test

import (
	"math"
	"math/big"
	"slices"
	"testing"

	"spile/api"
	"spile/segment"
)

const (
	most        = api.MaxLength
	mostHeight  = 2 * most
	mostHeights = api.MaxStrips + 1
)

// noLengths are numbers that no radius and no centre can have, and noHeights those that no height can have.
var (
	noLengths = []int{-1, most + 1, mostHeight, math.MinInt, math.MaxInt}
	noHeights = []int{-1, mostHeight + 1, math.MinInt, math.MaxInt}
)

// chord returns the bounds of a chord by Go's library.
func chord(r, y int) api.Bounds {
	if y > r || y < -r {
		return api.Bounds{}
	}
	n := big.NewInt(int64(r*r - y*y))
	down := new(big.Int).Sqrt(n)
	b := api.Bounds{Low: 2 * int(down.Int64()), High: 2 * int(down.Int64())}
	if new(big.Int).Mul(down, down).Cmp(n) != 0 {
		b.High += 2
	}
	return b
}

// reference returns the bounds of the area between right heights, by the definition.
func reference(r, centre int, heights []int) api.Bounds {
	var sum api.Bounds
	for i := range len(heights) - 1 {
		a, b := heights[i], heights[i+1]
		bottom, top := chord(r, a-centre), chord(r, b-centre)
		greater := 2 * r
		if centre < a || centre > b {
			greater = max(bottom.High, top.High)
		}
		sum.Low += (b - a) * min(bottom.Low, top.Low)
		sum.High += (b - a) * greater
	}
	return sum
}

// below returns the area of a circle around 0 up to a height, but for small errors.
func below(r, y float64) float64 {
	y = max(-r, min(y, r))
	if r == 0 {
		return 0
	}
	return y*math.Sqrt(r*r-y*y) + r*r*math.Asin(y/r) + r*r*math.Pi/2
}

// encloses reports whether bounds enclose the area of a circle between two heights.
func encloses(b api.Bounds, r, centre, from, to int) bool {
	area := below(float64(r), float64(to-centre)) - below(float64(r), float64(from-centre))
	slack := 1e-9 * (1 + float64(r)*float64(r))
	return float64(b.Low) <= area+slack && area <= float64(b.High)+slack
}

// area returns the bounds of the area between heights that are right.
func area(t *testing.T, r, centre int, heights []int) api.Bounds {
	t.Helper()
	b, e := segment.Area(r, centre, heights)
	if e != api.OK {
		t.Fatal(r, centre, heights, e)
	}
	return b
}

// circles calls a function with circles of many sizes and places.
func circles(f func(r, centre int)) {
	for _, r := range []int{0, 1, 2, 5, 13, 400, 65536, most - 1, most} {
		for _, centre := range []int{0, 1, 2, 5, 13, 399, 400, 401, 65536, most - 1, most} {
			f(r, centre)
		}
	}
}

// divisions are right heights of many kinds: even and uneven, far and close, equal ones too.
func divisions() [][]int {
	l := [][]int{
		{0, 0}, {0, 1}, {0, mostHeight}, {mostHeight, mostHeight}, {most, most}, {0, most, mostHeight},
		{0, 5, 10}, {0, 2, 5, 8, 10}, {5, 5, 5}, {399, 400, 401}, {most - 1, most, most + 1},
		{most + 1, mostHeight}, {0, 0, 7, 7, 800, 800, mostHeight, mostHeight},
	}
	for _, top := range []int{1, 10, 26, 800, 800 + 131072, mostHeight} {
		for _, n := range []int{1, 2, 3, 7, 64} {
			heights, _ := segment.Heights(top, n)
			l = append(l, heights)
		}
	}
	return l
}

// P7.1: even and uneven divisions, more strips than there are heights, and both ends.
func TestHeights(t *testing.T) {
	for _, x := range []struct {
		top, n int
		want   []int
	}{
		{10, 2, []int{0, 5, 10}},
		{10, 1, []int{0, 10}},
		{10, 3, []int{0, 3, 6, 10}},
		{11, 4, []int{0, 2, 5, 8, 11}},
		{2, 5, []int{0, 0, 0, 1, 1, 2}},
		{0, 1, []int{0, 0}},
		{0, 3, []int{0, 0, 0, 0}},
		{mostHeight, 1, []int{0, mostHeight}},
		{mostHeight, 3, []int{0, 66666, 133333, mostHeight}},
	} {
		if got, e := segment.Heights(x.top, x.n); !slices.Equal(got, x.want) || e != api.OK {
			t.Error(x, got, e)
		}
	}
}

// P7.1: all numbers of strips: no height is rounded up, and all of them are right.
func TestHeightsAreRight(t *testing.T) {
	for _, top := range []int{0, 1, 2, 63, 64, 65, 100, 999, most, mostHeight - 1, mostHeight} {
		for n := 1; n <= api.MaxStrips; n++ {
			heights, e := segment.Heights(top, n)
			if len(heights) != n+1 || heights[0] != 0 || heights[n] != top || e != api.OK {
				t.Fatal(top, n, heights, e)
			}
			for i, height := range heights {
				if height*n > i*top || (height+1)*n <= i*top {
					t.Fatal(top, n, i, height)
				}
			}
			if e := segment.Check(heights); e != api.OK {
				t.Fatal(top, n, e)
			}
		}
	}
}

// P7.1: what is no top, and no number of strips.
func TestHeightsRefuse(t *testing.T) {
	check := func(top, n int) {
		t.Helper()
		if got, e := segment.Heights(top, n); len(got) != 0 || e != api.ErrRange {
			t.Error(top, n, got, e)
		}
	}
	for _, top := range noHeights {
		check(top, 1)
		check(top, 0)
	}
	for _, n := range []int{0, -1, api.MaxStrips + 1, math.MinInt, math.MaxInt} {
		check(10, n)
		check(0, n)
	}
}

// P7.1: the first error of heights that the document names, wherever it stands.
func TestCheck(t *testing.T) {
	for _, x := range []struct {
		heights []int
		want    api.Errno
	}{
		{nil, api.ErrEmpty},
		{[]int{}, api.ErrEmpty},
		{[]int{0}, api.ErrEmpty},
		{[]int{-1}, api.ErrEmpty},
		{[]int{0, 0}, api.OK},
		{[]int{0, mostHeight}, api.OK},
		{[]int{mostHeight, mostHeight}, api.OK},
		{[]int{3, 3, 3, 4}, api.OK},
		{make([]int, mostHeights), api.OK},
		{make([]int, mostHeights+1), api.ErrTooLarge},
		{slices.Repeat([]int{-1}, mostHeights+1), api.ErrTooLarge},
		{slices.Repeat([]int{2, 1}, mostHeights), api.ErrTooLarge},
		{[]int{-1, 0}, api.ErrRange},
		{[]int{0, mostHeight + 1}, api.ErrRange},
		{[]int{0, -1}, api.ErrRange},
		{[]int{2, 1, -1}, api.ErrRange},
		{[]int{2, 1, mostHeight + 1}, api.ErrRange},
		{[]int{math.MinInt, math.MaxInt}, api.ErrRange},
		{[]int{1, 0}, api.ErrOrder},
		{[]int{0, 2, 1}, api.ErrOrder},
		{[]int{0, 2, 1, 2}, api.ErrOrder},
		{[]int{mostHeight, 0}, api.ErrOrder},
	} {
		before := slices.Clone(x.heights)
		if got := segment.Check(x.heights); got != x.want || !slices.Equal(x.heights, before) {
			t.Error(x, got)
		}
	}
}

// P7.1: the examples of the document, strips around, below and above the centre, beyond the circle, and the greatest ones.
func TestExamples(t *testing.T) {
	for _, x := range []struct {
		r, centre int
		heights   []int
		low, high int
	}{
		{5, 5, []int{0, 5, 10}, 0, 100},
		{5, 5, []int{0, 2, 5, 8, 10}, 48, 92},
		{5, 5, []int{0, 2}, 0, 16},
		{5, 5, []int{2, 5}, 24, 30},
		{5, 5, []int{2, 8}, 48, 60},
		{5, 5, []int{5, 5}, 0, 0},
		{5, 5, []int{3, 4}, 8, 10},
		{5, 5, []int{6, 7}, 8, 10},
		{5, 5, []int{6, 8}, 16, 20},
		{5, 5, []int{10, 12}, 0, 0},
		{5, 5, []int{9, 12}, 0, 18},
		{5, 0, []int{0, 3}, 24, 30},
		{5, 20, []int{0, 15}, 0, 0},
		{5, 20, []int{0, 40}, 0, 400},
		{0, 5, []int{0, 5, 10}, 0, 0},
		{most, most, []int{0, mostHeight}, 0, mostHeight * mostHeight},
		{most, 0, []int{0, mostHeight}, 0, mostHeight * mostHeight},
		{most, 0, []int{0, 60000, mostHeight}, 60000 * 160000, 60000*mostHeight + 140000*160000},
		{most, 0, []int{most, mostHeight}, 0, 0},
		{most, 0, []int{most + 1, mostHeight}, 0, 0},
		{most, 0, []int{mostHeight, mostHeight}, 0, 0},
		{5, 0, []int{4, mostHeight}, 0, 6 * (mostHeight - 4)},
	} {
		want := api.Bounds{Low: x.low, High: x.high}
		if got, e := segment.Area(x.r, x.centre, x.heights); got != want || e != api.OK {
			t.Error(x, got, e)
		}
		if len(x.heights) > 2 {
			continue
		}
		if got, e := segment.Strip(x.r, x.centre, api.Bounds{Low: x.heights[0], High: x.heights[1]}); got != want || e != api.OK {
			t.Error("Strip", x, got, e)
		}
	}
}

// P7.1: all strips of all small circles, against the definition; the area lies between the bounds.
func TestSmallStrips(t *testing.T) {
	for r := range 12 {
		for centre := range 14 {
			for a := range 28 {
				for b := a; b < 28; b++ {
					got, e := segment.Strip(r, centre, api.Bounds{Low: a, High: b})
					if got != reference(r, centre, []int{a, b}) || !encloses(got, r, centre, a, b) || e != api.OK {
						t.Fatal(r, centre, a, b, got, e)
					}
				}
			}
		}
	}
}

// P7.1: circles and heights of all sizes, against the definition, and strip by strip; the area lies between the bounds.
func TestArea(t *testing.T) {
	circles(func(r, centre int) {
		for _, heights := range divisions() {
			got := area(t, r, centre, heights)
			if got != reference(r, centre, heights) || !encloses(got, r, centre, heights[0], heights[len(heights)-1]) {
				t.Fatal(r, centre, heights, got)
			}
			var sum api.Bounds
			for i := range len(heights) - 1 {
				b, e := segment.Strip(r, centre, api.Bounds{Low: heights[i], High: heights[i+1]})
				if e != api.OK {
					t.Fatal(r, centre, heights, e)
				}
				sum.Low += b.Low
				sum.High += b.High
			}
			if got != sum {
				t.Fatal(r, centre, heights, got, sum)
			}
		}
	})
}

// P7.1: what is no circle comes first, then what heights are refused for.
func TestAreaRefuses(t *testing.T) {
	check := func(r, centre int, heights []int, want api.Errno) {
		t.Helper()
		if got, e := segment.Area(r, centre, heights); got != (api.Bounds{}) || e != want {
			t.Error("Area", r, centre, heights, got, e)
		}
		if len(heights) != 2 {
			return
		}
		if got, e := segment.Strip(r, centre, api.Bounds{Low: heights[0], High: heights[1]}); got != (api.Bounds{}) || e != want {
			t.Error("Strip", r, centre, heights, got, e)
		}
	}
	for _, x := range noLengths {
		for _, heights := range [][]int{{0, 1}, {1, 0}, {-1, 0}, {0}, nil, make([]int, mostHeights+1)} {
			check(x, 5, heights, api.ErrRange)
			check(5, x, heights, api.ErrRange)
		}
	}
	for _, x := range noHeights {
		check(5, 5, []int{x, 10}, api.ErrRange)
		check(5, 5, []int{0, x}, api.ErrRange)
		check(5, 5, []int{0, x, 10}, api.ErrRange)
		check(0, 0, []int{x, x}, api.ErrRange)
	}
	check(5, 5, nil, api.ErrEmpty)
	check(5, 5, []int{0}, api.ErrEmpty)
	check(5, 5, make([]int, mostHeights+1), api.ErrTooLarge)
	check(5, 5, []int{10, 0}, api.ErrOrder)
	check(5, 5, []int{0, 10, 9}, api.ErrOrder)
	check(0, 0, []int{mostHeight, mostHeight - 1}, api.ErrOrder)
	check(5, 5, []int{1, 0, -1}, api.ErrRange)
}

// P7.2: the example of the document, both ends, and all radii against the definition; the area lies between the bounds.
func TestWhole(t *testing.T) {
	for _, x := range []struct{ r, low, high int }{
		{5, 78, 79},
		{0, 0, 0},
		{1, 3, 4},
		{106, 333 * 106, 35299},
		{113, 40113, 355 * 113},
		{most, 31415094339, 31415929204},
	} {
		if got, e := segment.Whole(x.r); got != (api.Bounds{Low: x.low, High: x.high}) || e != api.OK {
			t.Error(x, got, e)
		}
	}
	for r := range most + 1 {
		got, e := segment.Whole(r)
		low, high := 333*r*r, 355*r*r
		if got.Low*106 > low || (got.Low+1)*106 <= low || got.High*113 < high || (got.High-1)*113 >= high || e != api.OK {
			t.Fatal(r, got, e)
		}
		if exact := math.Pi * float64(r) * float64(r); float64(got.Low) > exact || exact > float64(got.High) {
			t.Fatal(r, got)
		}
	}
	for _, r := range noLengths {
		if got, e := segment.Whole(r); got != (api.Bounds{}) || e != api.ErrRange {
			t.Error(r, got, e)
		}
	}
}

// P7.2: middles are rounded down; as many heights as are allowed, and one more.
func TestRefine(t *testing.T) {
	for _, x := range []struct{ heights, want []int }{
		{[]int{0, 5, 10}, []int{0, 2, 5, 7, 10}},
		{[]int{0, 1}, []int{0, 0, 1}},
		{[]int{1, 2}, []int{1, 1, 2}},
		{[]int{3, 3}, []int{3, 3, 3}},
		{[]int{3, 3, 8}, []int{3, 3, 3, 5, 8}},
		{[]int{0, mostHeight}, []int{0, most, mostHeight}},
		{[]int{mostHeight - 1, mostHeight}, []int{mostHeight - 1, mostHeight - 1, mostHeight}},
		{make([]int, 33), make([]int, mostHeights)},
	} {
		before := slices.Clone(x.heights)
		got, e := segment.Refine(x.heights)
		if !slices.Equal(got, x.want) || e != api.OK {
			t.Error(x, got, e)
		}
		clear(got)
		if !slices.Equal(x.heights, before) {
			t.Error("changed", x)
		}
	}
}

// P7.2: what heights are refused for comes before what would be too many.
func TestRefineRefuses(t *testing.T) {
	for _, x := range []struct {
		heights []int
		want    api.Errno
	}{
		{nil, api.ErrEmpty},
		{[]int{5}, api.ErrEmpty},
		{make([]int, mostHeights+1), api.ErrTooLarge},
		{[]int{0, mostHeight + 1}, api.ErrRange},
		{[]int{2, 1, -1}, api.ErrRange},
		{[]int{2, 1}, api.ErrOrder},
		{append(make([]int, 40), -1), api.ErrRange},
		{append(make([]int, 40), 1, 0), api.ErrOrder},
		{make([]int, 34), api.ErrLimit},
		{make([]int, mostHeights), api.ErrLimit},
	} {
		if got, e := segment.Refine(x.heights); len(got) != 0 || e != x.want {
			t.Error(x, got, e)
		}
	}
}

// P7.3: refined heights have bounds within those before, and after some steps closer ones.
func TestRefinedBoundsNest(t *testing.T) {
	circles(func(r, centre int) {
		for _, heights := range divisions() {
			before := area(t, r, centre, heights)
			for {
				refined, e := segment.Refine(heights)
				if e == api.ErrLimit {
					break
				}
				after := area(t, r, centre, refined)
				if after.Low < before.Low || after.High > before.High || e != api.OK {
					t.Fatal(r, centre, heights, before, after, e)
				}
				heights, before = refined, after
			}
		}
	})
	wide, close := area(t, 400, 400, []int{0, 800}), area(t, 400, 400, []int{0, 50, 200, 400, 600, 750, 800})
	if close.High-close.Low >= wide.High-wide.Low {
		t.Error(wide, close)
	}
}

// P7.3: a greater radius has no lesser bounds.
func TestGreaterRadius(t *testing.T) {
	for _, heights := range divisions() {
		for _, centre := range []int{0, 1, 5, 400, most} {
			last := api.Bounds{}
			for r := 0; r <= most; r += r/9 + 1 {
				b := area(t, r, centre, heights)
				if b.Low < last.Low || b.High < last.High {
					t.Fatal(r, centre, heights, last, b)
				}
				last = b
			}
		}
	}
}

// P7.3: from below the circle to above it the bounds overlap with those of the whole area.
func TestWholeOverlaps(t *testing.T) {
	for r := 0; r <= most; r += r/50 + 1 {
		whole, _ := segment.Whole(r)
		for _, centre := range []int{r, (r + most) / 2, most} {
			for _, n := range []int{1, 2, 7, 64} {
				heights, _ := segment.Heights(centre+r, n)
				if b := area(t, r, centre, heights); b.Low > whole.High || b.High < whole.Low {
					t.Fatal(r, centre, n, b, whole)
				}
			}
		}
	}
}

// P7.3: the bounds between heights are the sums of those of two parts.
func TestParts(t *testing.T) {
	circles(func(r, centre int) {
		for _, heights := range divisions() {
			all := area(t, r, centre, heights)
			for i := 1; i < len(heights)-1; i++ {
				lower, upper := area(t, r, centre, heights[:i+1]), area(t, r, centre, heights[i:])
				if all != (api.Bounds{Low: lower.Low + upper.Low, High: lower.High + upper.High}) {
					t.Fatal(r, centre, heights, i, all, lower, upper)
				}
			}
		}
	})
}

// Arguments are not changed.
func TestArgumentsStay(t *testing.T) {
	heights := []int{0, 2, 5, 8, 10, 99}
	area(t, 5, 5, heights[:5])
	segment.Refine(heights[:5])
	if !slices.Equal(heights, []int{0, 2, 5, 8, 10, 99}) {
		t.Error(heights)
	}
}

// P1: no function panics, for all arguments.
func TestNoPanic(t *testing.T) {
	all := []int{math.MinInt, -mostHeight, -1, 0, 1, 64, 65, most, most + 1, mostHeight, mostHeight + 1, math.MaxInt}
	for _, a := range all {
		segment.Whole(a)
		for _, b := range all {
			segment.Heights(a, b)
			for _, c := range all {
				segment.Check([]int{a, b, c})
				segment.Refine([]int{a, b, c})
				for _, d := range all {
					segment.Strip(a, b, api.Bounds{Low: c, High: d})
					segment.Area(a, b, []int{c, d, a})
				}
			}
		}
	}
}
