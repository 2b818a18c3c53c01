package correct_test

import (
	"math"
	"math/big"
	"math/rand"
	"regexp"
	"slices"
	"strconv"
	"strings"
	"testing"

	"spile/api"
	"spile/correct"
)

const (
	most     = api.MaxStrength
	coldest  = api.MinHeat
	hottest  = api.MaxHeat
	mostGrid = api.MaxGrid
)

// extremes are numbers at and beyond all limits.
var extremes = []int{math.MinInt, math.MinInt + 1, coldest - 1, coldest, -1, 0, 1, 2, hottest, hottest + 1, most - 1, most, most + 1, math.MaxInt - 1, math.MaxInt}

// noStrengths are numbers that are no strengths.
var noStrengths = []int{-1, most + 1, math.MinInt, math.MaxInt}

// grid returns a table with heats, apparent strengths and rows.
func grid(heats, apparent []int, rows ...[]int) api.Grid {
	return api.Grid{Heats: heats, Apparent: apparent, True: rows}
}

// example is the table of the example of the document.
func example() api.Grid {
	return grid([]int{100, 300}, []int{4000, 5000}, []int{4400, 5400}, []int{3600, 4600})
}

// clone returns a table in new memory.
func clone(g api.Grid) api.Grid {
	c := api.Grid{Heats: slices.Clone(g.Heats), Apparent: slices.Clone(g.Apparent)}
	for _, row := range g.True {
		c.True = append(c.True, slices.Clone(row))
	}
	return c
}

// same reports whether two tables are equal.
func same(g, h api.Grid) bool {
	return slices.Equal(g.Heats, h.Heats) && slices.Equal(g.Apparent, h.Apparent) && slices.EqualFunc(g.True, h.True, slices.Equal[[]int])
}

// isZero reports whether a table has nothing.
func isZero(g api.Grid) bool {
	return len(g.Heats)+len(g.Apparent)+len(g.True) == 0
}

// falling returns a table of a size with even places from some numbers on; its numbers fall by some steps with the heat and rise by others with the apparent strength.
func falling(heats, apparent, heatStep, apparentStep, down, up int) api.Grid {
	g := api.Grid{True: make([][]int, heats)}
	for i := range heats {
		g.Heats = append(g.Heats, coldest+i*heatStep)
		for k := range apparent {
			g.True[i] = append(g.True[i], (heats-1-i)*down+k*up)
		}
	}
	for k := range apparent {
		g.Apparent = append(g.Apparent, k*apparentStep)
	}
	return g
}

// increasing returns n numbers by chance, from a least to a greatest one, that increase strictly.
func increasing(r *rand.Rand, n, least, greatest int) []int {
	l := r.Perm(greatest - least + 1)[:n]
	slices.Sort(l)
	for i := range l {
		l[i] += least
	}
	return l
}

// chance returns a right table by chance, with n heats and m apparent strengths within some range, and numbers up to a greatest one.
func chance(r *rand.Rand, n, m, wide, greatest int) api.Grid {
	from := coldest + r.Intn(hottest-coldest+1-min(wide, hottest-coldest))
	first := r.Intn(most + 1 - min(wide, most))
	g := api.Grid{Heats: increasing(r, n, from, min(from+wide, hottest)), Apparent: increasing(r, m, first, min(first+wide, most))}
	g.True = make([][]int, n)
	for i := range n {
		g.True[i] = make([]int, m)
	}
	// The greatest number for a place is the one above it; the least one is the one to the left of it.
	for k := range m {
		for i := n - 1; i >= 0; i-- {
			least := 0
			if k > 0 {
				least = g.True[i][k-1]
			}
			if i < n-1 {
				least = max(least, g.True[i+1][k])
			}
			g.True[i][k] = min(greatest, least+r.Intn(greatest/m+2))
		}
	}
	return g
}

// small are right tables with few places.
func small() []api.Grid {
	all := []api.Grid{
		grid([]int{0, 1}, []int{0, 1}, []int{0, 0}, []int{0, 0}),
		grid([]int{0, 1}, []int{0, 1}, []int{1, 1}, []int{0, 1}),
		grid([]int{-1, 1}, []int{0, 2}, []int{1, 2}, []int{0, 1}),
		grid([]int{-3, 0, 1}, []int{0, 1, 4}, []int{5, 7, 8}, []int{5, 6, 8}, []int{0, 6, 6}),
		grid([]int{coldest, coldest + 3}, []int{most - 5, most}, []int{0, most}, []int{0, most}),
		grid([]int{hottest - 4, hottest}, []int{0, 3}, []int{most, most}, []int{0, 0}),
		grid([]int{0, 4, 7}, []int{10, 15, 21}, []int{most, most, most}, []int{most, most, most}, []int{most, most, most}),
		falling(4, 3, 3, 4, 2, 5), falling(3, 4, 2, 3, 7, 1), falling(mostGrid, 2, 1, 3, 1, 1), falling(2, mostGrid, 5, 1, 1, 2),
	}
	r := rand.New(rand.NewSource(191))
	for n := 2; n < 7; n++ {
		for _, greatest := range []int{1, 3, 10, 40, 999, most} {
			all = append(all, chance(r, n, 8-n, 12, greatest), chance(r, 8-n, n, 9, greatest))
		}
	}
	return all
}

// large are right tables up to the limits.
func large() []api.Grid {
	all := []api.Grid{
		example(),
		grid([]int{coldest, hottest}, []int{0, most}, []int{most, most}, []int{0, 0}),
		grid([]int{coldest, hottest}, []int{0, most}, []int{0, most}, []int{0, most}),
		grid([]int{coldest, hottest}, []int{0, most}, []int{most, most}, []int{most, most}),
		grid([]int{coldest, hottest}, []int{0, most}, []int{0, most}, []int{0, 0}),
		falling(mostGrid, mostGrid, 32, 322, 11, 311), falling(mostGrid, mostGrid, 1, 1, 300, 20), falling(mostGrid, mostGrid, 32, 1, 0, 0),
	}
	r := rand.New(rand.NewSource(192))
	for _, n := range []int{2, 5, 16, mostGrid} {
		for _, greatest := range []int{100, most} {
			all = append(all, chance(r, n, 34-n, most, greatest), chance(r, mostGrid, n, 1000, greatest))
		}
	}
	return all
}

// tables are right tables of all kinds.
func tables() []api.Grid {
	return append(small(), large()...)
}

// wrong is a table with its first fault.
type wrong struct {
	g api.Grid
	e api.Errno
}

// changed returns the example with something changed.
func changed(change func(g *api.Grid)) api.Grid {
	g := example()
	change(&g)
	return g
}

// wrongTables are tables with faults of each kind, and with several ones.
func wrongTables() []wrong {
	full := func(n, m int) api.Grid { return falling(n, m, 1, 1, 1, 1) }
	all := []wrong{
		{api.Grid{}, api.ErrEmpty}, {grid([]int{100}, []int{4000, 5000}, []int{4400, 5400}), api.ErrEmpty}, {grid([]int{100, 300}, []int{4000}, []int{4400}, []int{3600}), api.ErrEmpty},
		{grid([]int{100, 300}, nil), api.ErrEmpty}, {grid(nil, []int{4000, 5000}), api.ErrEmpty},
		{full(mostGrid+1, 2), api.ErrTooLarge}, {full(2, mostGrid+1), api.ErrTooLarge}, {full(mostGrid+1, mostGrid+1), api.ErrTooLarge}, {full(mostGrid+1, mostGrid), api.ErrTooLarge},
		{full(mostGrid+1, 1), api.ErrEmpty}, {full(1, mostGrid+1), api.ErrEmpty},
		{changed(func(g *api.Grid) { g.True = g.True[:1] }), api.ErrMismatch}, {changed(func(g *api.Grid) { g.True = nil }), api.ErrMismatch},
		{changed(func(g *api.Grid) { g.True = append(g.True, []int{3600, 4600}) }), api.ErrMismatch},
		{changed(func(g *api.Grid) { g.True[0] = []int{4400} }), api.ErrMismatch}, {changed(func(g *api.Grid) { g.True[1] = []int{3600, 4600, 4600} }), api.ErrMismatch},
		{changed(func(g *api.Grid) { g.True[1] = nil }), api.ErrMismatch}, {changed(func(g *api.Grid) { g.Heats = append(g.Heats, 400) }), api.ErrMismatch},
		{changed(func(g *api.Grid) { g.Apparent = append(g.Apparent, 6000) }), api.ErrMismatch},
		{changed(func(g *api.Grid) { g.Heats[1] = 100 }), api.ErrOrder}, {changed(func(g *api.Grid) { g.Heats[1] = 99 }), api.ErrOrder},
		{changed(func(g *api.Grid) { g.Apparent[1] = 4000 }), api.ErrOrder}, {changed(func(g *api.Grid) { g.Apparent[0] = 5001 }), api.ErrOrder},
		{grid([]int{1, 2, 2}, []int{0, 1}, []int{0, 0}, []int{0, 0}, []int{0, 0}), api.ErrOrder}, {grid([]int{1, 2}, []int{0, 3, 2}, []int{0, 0, 0}, []int{0, 0, 0}), api.ErrOrder},
		{changed(func(g *api.Grid) { g.True[0][0] = 5401 }), api.ErrConflict}, {changed(func(g *api.Grid) { g.True[1][1] = 3599 }), api.ErrConflict},
		{changed(func(g *api.Grid) { g.True[1][1] = 5401 }), api.ErrConflict}, {changed(func(g *api.Grid) { g.True[0][0] = 3599 }), api.ErrConflict},
		{grid([]int{1, 2, 3}, []int{0, 1, 2}, []int{7, 8, 9}, []int{7, 8, 9}, []int{7, 8, 10}), api.ErrConflict}, {grid([]int{1, 2, 3}, []int{0, 1, 2}, []int{7, 8, 9}, []int{7, 8, 9}, []int{7, 8, 7}), api.ErrConflict},
		// The first kind of fault counts, wherever it stands.
		{changed(func(g *api.Grid) { g.Heats = g.Heats[:1]; g.Apparent[0] = -1 }), api.ErrEmpty},
		{changed(func(g *api.Grid) { g.Heats[0] = coldest - 1; g.True[1] = g.True[1][:1] }), api.ErrMismatch},
		{changed(func(g *api.Grid) { g.Heats[0] = 400; g.True[1][1] = most + 1 }), api.ErrRange},
		{changed(func(g *api.Grid) { g.True[0][0] = 5401; g.Apparent[0] = 5000 }), api.ErrOrder},
		{changed(func(g *api.Grid) { g.True[0][0] = 5401; g.True[1][1] = -1 }), api.ErrRange},
	}
	for _, n := range []int{coldest - 1, hottest + 1, math.MinInt, math.MaxInt} {
		all = append(all, wrong{changed(func(g *api.Grid) { g.Heats[0] = n }), api.ErrRange}, wrong{changed(func(g *api.Grid) { g.Heats[1] = n }), api.ErrRange})
	}
	for _, n := range noStrengths {
		for i := range 2 {
			all = append(all, wrong{changed(func(g *api.Grid) { g.Apparent[i] = n }), api.ErrRange}, wrong{changed(func(g *api.Grid) { g.True[0][i] = n }), api.ErrRange}, wrong{changed(func(g *api.Grid) { g.True[1][i] = n }), api.ErrRange})
		}
	}
	return all
}

// P19.1: tables of all kinds, with their first fault.
func TestCheck(t *testing.T) {
	for _, g := range tables() {
		if e := correct.Check(g); e != api.OK {
			t.Error(g, e)
		}
	}
	for _, x := range wrongTables() {
		before := clone(x.g)
		if e := correct.Check(x.g); e != x.e || !same(x.g, before) {
			t.Error(x, e)
		}
	}
}

// reference returns the first fault of a table with two heats and two apparent strengths by the definition.
func reference(g api.Grid) api.Errno {
	h, a, u := g.Heats, g.Apparent, g.True
	for _, n := range h {
		if n < coldest || n > hottest {
			return api.ErrRange
		}
	}
	for _, n := range slices.Concat(a, u[0], u[1]) {
		if n < 0 || n > most {
			return api.ErrRange
		}
	}
	if h[0] >= h[1] || a[0] >= a[1] {
		return api.ErrOrder
	}
	if u[0][1] < u[0][0] || u[1][1] < u[1][0] || u[1][0] > u[0][0] || u[1][1] > u[0][1] {
		return api.ErrConflict
	}
	return api.OK
}

// P19.1: all tables with two heats, two apparent strengths and few numbers, against the definition.
func TestCheckSmall(t *testing.T) {
	strengths := []int{-1, 0, 1, most, most + 1}
	var rows [][]int
	for _, n := range strengths {
		for _, m := range strengths {
			rows = append(rows, []int{n, m})
		}
	}
	for _, from := range []int{coldest - 1, coldest, 5} {
		for _, to := range []int{coldest, 6, hottest, hottest + 1} {
			for _, apparent := range rows {
				for _, first := range rows {
					for _, second := range rows {
						g := grid([]int{from, to}, apparent, first, second)
						if e := correct.Check(g); e != reference(g) {
							t.Fatal(g, e)
						}
					}
				}
			}
		}
	}
}

// neighbours returns the index of the first one of the two neighbours of a number by the definition.
func neighbours(l []int, n int) int {
	for i := range len(l) - 1 {
		if l[i] <= n && n < l[i+1] {
			return i
		}
	}
	return len(l) - 2
}

// exact returns the strength at 20 degrees by the definition.
func exact(g api.Grid, heat, apparent int) int {
	i, k := neighbours(g.Heats, heat), neighbours(g.Apparent, apparent)
	number := func(n int) *big.Rat { return new(big.Rat).SetInt64(int64(n)) }
	line := func(row []int) *big.Rat {
		left := new(big.Rat).Mul(number(g.Apparent[k+1]-apparent), number(row[k]))
		right := new(big.Rat).Mul(number(apparent-g.Apparent[k]), number(row[k+1]))
		return left.Add(left, right)
	}
	sum := new(big.Rat).Mul(number(g.Heats[i+1]-heat), line(g.True[i]))
	sum.Add(sum, new(big.Rat).Mul(number(heat-g.Heats[i]), line(g.True[i+1])))
	sum.Quo(sum, number((g.Heats[i+1]-g.Heats[i])*(g.Apparent[k+1]-g.Apparent[k])))
	// Half up is down, a half later.
	sum.Add(sum, big.NewRat(1, 2))
	return int(new(big.Int).Div(sum.Num(), sum.Denom()).Int64())
}

// places returns the numbers of a list that increases, those next to them, and some between them.
func places(l []int) []int {
	first, last := l[0], l[len(l)-1]
	var all []int
	for i, n := range l {
		all = append(all, n-1, n, n+1)
		if i > 0 {
			all = append(all, (n+l[i-1])/2, (2*n+l[i-1])/3)
		}
	}
	all = slices.DeleteFunc(all, func(n int) bool { return n < first || n > last })
	slices.Sort(all)
	return slices.Compact(all)
}

// every returns all numbers between the first and the last one of a list that increases.
func every(l []int) []int {
	var all []int
	for n := l[0]; n <= l[len(l)-1]; n++ {
		all = append(all, n)
	}
	return all
}

// P19.1 and P19.5: the example of the document, and its corners and edges.
func TestTrueExamples(t *testing.T) {
	for _, x := range []struct{ heat, apparent, want int }{
		{200, 4500, 4500}, {150, 4000, 4200}, {100, 4000, 4400}, {100, 5000, 5400}, {300, 4000, 3600}, {300, 5000, 4600},
		{101, 4000, 4396}, {299, 4000, 3604}, {100, 4001, 4401}, {300, 4999, 4599}, {200, 4000, 4000}, {200, 5000, 5000}, {299, 4999, 4603},
	} {
		if got, e := correct.True(example(), x.heat, x.apparent); got != x.want || e != api.OK {
			t.Error(x, got, e)
		}
	}
	// 0.25, 0.5 and 0.75 of one.
	g := grid([]int{0, 4}, []int{0, 4}, []int{7, 8}, []int{7, 8})
	for apparent, want := range []int{7, 7, 8, 8, 8} {
		if got, e := correct.True(g, 3, apparent); got != want || e != api.OK {
			t.Error(apparent, got, e)
		}
	}
	g = grid([]int{0, 4}, []int{0, 4}, []int{8, 8}, []int{7, 7})
	for heat, want := range []int{8, 8, 8, 7, 7} {
		if got, e := correct.True(g, heat, 1); got != want || e != api.OK {
			t.Error(heat, got, e)
		}
	}
}

// P19.1 and P19.5: all places of small tables, and many of large ones, against the definition; the strengths rise with the apparent one, fall with the heat, and lie between those of the neighbours.
func TestTrue(t *testing.T) {
	check := func(g api.Grid, heats, apparents []int) {
		before := clone(g)
		above := make([]int, len(apparents))
		for k := range above {
			above[k] = math.MaxInt
		}
		for _, heat := range heats {
			last := 0
			for k, apparent := range apparents {
				got, e := correct.True(g, heat, apparent)
				if got != exact(g, heat, apparent) || e != api.OK {
					t.Fatal(g, heat, apparent, got, e)
				}
				if got < last || got > above[k] {
					t.Fatal(g, heat, apparent, got, last, above[k])
				}
				i, j := neighbours(g.Heats, heat), neighbours(g.Apparent, apparent)
				if got < g.True[i+1][j] || got > g.True[i][j+1] {
					t.Fatal(g, heat, apparent, got)
				}
				last, above[k] = got, got
			}
		}
		if !same(g, before) {
			t.Error("changed", g)
		}
	}
	for _, g := range small() {
		check(g, every(g.Heats), every(g.Apparent))
	}
	for _, g := range large() {
		check(g, places(g.Heats), places(g.Apparent))
	}
}

// outside returns numbers that are not between the first and the last one of a list that increases.
func outside(l []int) []int {
	return []int{l[0] - 1, l[len(l)-1] + 1, math.MinInt, math.MaxInt}
}

// P19.1 to P19.3: heats, strengths and errors that are out of range.
func TestRanges(t *testing.T) {
	for _, g := range tables() {
		heat, apparent := g.Heats[1], g.Apparent[0]
		refuse := func(heat, apparent, heatError, err int) {
			t.Helper()
			if b, e := correct.Around(g, heat, apparent, heatError, err); b != (api.Bounds{}) || e != api.ErrRange {
				t.Error(g, heat, apparent, heatError, err, b, e)
			}
		}
		refuseTrue := func(heat, apparent int) {
			t.Helper()
			if n, e := correct.True(g, heat, apparent); n != 0 || e != api.ErrRange {
				t.Error(g, heat, apparent, n, e)
			}
			for _, n := range []int{0, 1, most} {
				refuse(heat, apparent, n, 0)
				refuse(heat, apparent, 0, n)
			}
		}
		for _, n := range outside(g.Heats) {
			refuseTrue(n, apparent)
			for _, strength := range []int{0, most, -1, most + 1} {
				if a, e := correct.Apparent(g, n, strength); a != 0 || e != api.ErrRange {
					t.Error(g, n, strength, a, e)
				}
			}
			for _, m := range outside(g.Apparent) {
				refuseTrue(n, m)
			}
		}
		for _, n := range outside(g.Apparent) {
			refuseTrue(heat, n)
		}
		for _, n := range noStrengths {
			// A strength that is out of range comes before one for which there is no apparent strength.
			if a, e := correct.Apparent(g, heat, n); a != 0 || e != api.ErrRange {
				t.Error(g, heat, n, a, e)
			}
			for _, m := range append(noStrengths, 0, 1, most) {
				refuse(heat, apparent, n, m)
				refuse(heat, apparent, m, n)
			}
		}
	}
}

// P19.2: the first and the last apparent strength, and those between.
func TestApparentExamples(t *testing.T) {
	for _, x := range []struct {
		heat, strength, want int
		e                    api.Errno
	}{
		{200, 4500, 4500, api.OK}, {150, 4200, 4000, api.OK}, {150, 4199, 0, api.ErrNotFound}, {150, 0, 0, api.ErrNotFound}, {150, 5200, 5000, api.OK}, {150, 5199, 4999, api.OK}, {150, 5201, 5000, api.OK}, {150, most, 5000, api.OK},
		{100, 4399, 0, api.ErrNotFound}, {100, 4400, 4000, api.OK}, {300, 3599, 0, api.ErrNotFound}, {300, 3600, 4000, api.OK}, {300, 4599, 4999, api.OK}, {300, 4600, 5000, api.OK},
	} {
		if got, e := correct.Apparent(example(), x.heat, x.strength); got != x.want || e != x.e {
			t.Error(x, got, e)
		}
	}
	// Where strengths are equal, the greatest apparent strength counts, and none has the strength 6.
	g := grid([]int{0, 1}, []int{0, 10, 20, 21}, []int{5, 5, 5, 7}, []int{5, 5, 5, 7})
	for strength, want := range map[int]int{5: 20, 6: 20, 7: 21} {
		if got, e := correct.Apparent(g, 1, strength); got != want || e != api.OK {
			t.Error(strength, got, e)
		}
	}
}

// P19.2: strengths of all kinds, against the definition.
func TestApparent(t *testing.T) {
	for i, g := range tables() {
		heats := places(g.Heats)
		if i >= len(small()) {
			heats = []int{heats[0], heats[len(heats)/2], heats[len(heats)-1]}
		}
		before := clone(g)
		for _, heat := range heats {
			// For each strength that one has, the greatest apparent one.
			last := map[int]int{}
			for _, apparent := range every(g.Apparent) {
				n, _ := correct.True(g, heat, apparent)
				last[n] = apparent
			}
			want, e := 0, api.ErrNotFound
			for strength := range most + 1 {
				if apparent, found := last[strength]; found {
					want, e = apparent, api.OK
				}
				if len(last) > 20 && strength > 50 && strength < most-50 && strength%97 > 1 {
					continue
				}
				if got, f := correct.Apparent(g, heat, strength); got != want || f != e {
					t.Fatal(g, heat, strength, got, f, want)
				}
			}
		}
		if !same(g, before) {
			t.Error("changed", g)
		}
	}
}

// P19.3: the example of the document, errors of one kind alone, and such that go beyond the table.
func TestAroundExamples(t *testing.T) {
	for _, x := range []struct{ heat, apparent, heatError, err, low, high int }{
		{200, 4500, 10, 20, 4440, 4560}, {200, 4500, 0, 0, 4500, 4500}, {200, 4500, 10, 0, 4460, 4540}, {200, 4500, 0, 20, 4480, 4520}, {200, 4500, 100, 0, 4100, 4900}, {200, 4500, 101, 0, 4100, 4900},
		{200, 4500, 0, 500, 4000, 5000}, {200, 4500, 0, 501, 4000, 5000}, {200, 4500, most, most, 3600, 5400}, {100, 4000, 0, 0, 4400, 4400}, {100, 4000, 1, 1, 4396, 4401}, {300, 5000, 1, 1, 4599, 4604}, {300, 5000, most, 0, 4600, 5400}, {100, 4000, 0, most, 4400, 5400},
	} {
		if b, e := correct.Around(example(), x.heat, x.apparent, x.heatError, x.err); b != (api.Bounds{Low: x.low, High: x.high}) || e != api.OK {
			t.Error(x, b, e)
		}
	}
}

// around returns the least and the greatest strength by the definition.
func around(g api.Grid, heat, apparent, heatError, err int) api.Bounds {
	b := api.Bounds{Low: math.MaxInt, High: -1}
	for _, h := range every(g.Heats) {
		for _, a := range every(g.Apparent) {
			if max(h-heat, heat-h) <= heatError && max(a-apparent, apparent-a) <= err {
				n, _ := correct.True(g, h, a)
				b.Low, b.High = min(b.Low, n), max(b.High, n)
			}
		}
	}
	return b
}

// P19.3: places and errors of small tables, against the definition.
func TestAround(t *testing.T) {
	r := rand.New(rand.NewSource(193))
	for _, g := range small() {
		before := clone(g)
		heats, apparents := every(g.Heats), every(g.Apparent)
		for range 300 {
			heat, apparent := heats[r.Intn(len(heats))], apparents[r.Intn(len(apparents))]
			heatError, err := r.Intn(len(heats)+2), r.Intn(len(apparents)+2)
			want := around(g, heat, apparent, heatError, err)
			if b, e := correct.Around(g, heat, apparent, heatError, err); b != want || e != api.OK {
				t.Fatal(g, heat, apparent, heatError, err, b, e, want)
			}
		}
		if !same(g, before) {
			t.Error("changed", g)
		}
	}
}

// P19.3: by the corners of the errors, in large tables.
func TestAroundLarge(t *testing.T) {
	r := rand.New(rand.NewSource(194))
	for _, g := range large() {
		heats, apparents := every(g.Heats), every(g.Apparent)
		for range 300 {
			heat, apparent := heats[r.Intn(len(heats))], apparents[r.Intn(len(apparents))]
			heatError, err := r.Intn(len(heats)), r.Intn(len(apparents))
			h0, h1 := max(heat-heatError, heats[0]), min(heat+heatError, heats[len(heats)-1])
			a0, a1 := max(apparent-err, apparents[0]), min(apparent+err, apparents[len(apparents)-1])
			want := api.Bounds{Low: exact(g, h1, a0), High: exact(g, h0, a1)}
			if b, e := correct.Around(g, heat, apparent, heatError, err); b != want || e != api.OK {
				t.Fatal(g, heat, apparent, heatError, err, b, e, want)
			}
		}
	}
}

// printed returns the text of a table by the definition.
func printed(g api.Grid) string {
	words := func(l []int) string {
		text := ""
		for _, n := range l {
			text += " " + strconv.Itoa(n)
		}
		return text + "\n"
	}
	text := "apparent" + words(g.Apparent)
	for i, heat := range g.Heats {
		text += "heat" + words(append([]int{heat}, g.True[i]...))
	}
	return text
}

// P19.4 and P19.5: the texts of tables of all kinds, which are parsed to them.
func TestPrint(t *testing.T) {
	if text, e := correct.Print(example()); text != "apparent 4000 5000\nheat 100 4400 5400\nheat 300 3600 4600\n" || e != api.OK {
		t.Error(text, e)
	}
	if text, e := correct.Print(grid([]int{coldest, -1, 0, hottest}, []int{0, most}, []int{9, most}, []int{9, 9}, []int{1, 9}, []int{0, 0})); text != "apparent 0 10000\nheat -400 9 10000\nheat -1 9 9\nheat 0 1 9\nheat 600 0 0\n" || e != api.OK {
		t.Error(text, e)
	}
	for _, g := range tables() {
		before := clone(g)
		text, e := correct.Print(g)
		if text != printed(g) || e != api.OK || !same(g, before) {
			t.Error(g, text, e)
		}
		if got, line, e := correct.Parse(text); !same(got, g) || line != -1 || e != api.OK {
			t.Error(text, got, line, e)
		}
	}
}

// refused checks that a text has no table.
func refused(t *testing.T, text string, line int, want api.Errno) {
	t.Helper()
	if got, n, e := correct.Parse(text); !isZero(got) || n != line || e != want {
		t.Errorf("%.99q %v %v %v", text, got, n, e)
	}
}

// P19.4: the first line that does not have the form, wherever it stands.
func TestParseFindsSyntax(t *testing.T) {
	first, second, third := "apparent 4000 5000\n", "heat 100 4400 5400\n", "heat 300 3600 4600\n"
	refused(t, "", 0, api.ErrSyntax)
	for _, line := range []string{
		"\n", " \n", "4000\n", "4000 5000\n", " apparent 4000 5000\n", "apparent 4000 5000 \n", "apparent  4000 5000\n", "apparent 4000  5000\n", "apparent \n", "apparent\t4000 5000\n", "apparent 4000 5000\r\n", "Apparent 4000 5000\n", "apparents 4000 5000\n", "apparen 4000 5000\n",
		"apparent -1 5000\n", "apparent 4000 -1\n", "apparent -0\n", "apparent 04000 5000\n", "apparent 4000 00\n", "apparent +4000 5000\n", "apparent 100000\n", "apparent 4000 123456\n", "apparent 4e3 5000\n", "apparent 4_000 5000\n", "apparent 0x10 5000\n", "apparent 4000,5000\n", "apparent 4000.0 5000\n",
		"apparent 4000 99999999999999999999\n", "apparent a\n", "apparent apparent\n", "apparent 4000 heat 1\n", "apparent ٤ ٥\n", "heat 100 4400 5400\n", "\x00\n", "\xff\n",
	} {
		refused(t, line, 0, api.ErrSyntax)
		refused(t, line+second+third, 0, api.ErrSyntax)
	}
	for _, line := range []string{
		"\n", " \n", "heat\n", "heat \n", "heat  100\n", " heat 100 4400 5400\n", "heat 100 4400 5400 \n", "heat 100  4400 5400\n", "heat 100 4400  5400\n", "heat\t100 4400 5400\n", "heat 100 4400 5400\r\n", "Heat 100 4400 5400\n", "heats 100 4400 5400\n", "hea 100 4400 5400\n", "100 4400 5400\n",
		"heat -0 4400 5400\n", "heat -00 4400\n", "heat --1 4400 5400\n", "heat - 4400 5400\n", "heat -01 4400 5400\n", "heat 0100 4400 5400\n", "heat +100 4400 5400\n", "heat 1- 4400\n", "heat 100000 1 2\n", "heat -100000 1 2\n", "heat -123456 1 2\n", "heat 1.0 1 2\n",
		"heat 100 -1 5400\n", "heat 100 4400 -1\n", "heat 100 -0 5400\n", "heat 100 04400 5400\n", "heat 100 4400 +5400\n", "heat 100 4400 100000\n", "heat 100 4400 5400 a\n", "heat a 4400 5400\n", "heat 100 4400 heat\n", "apparent 4000 5000\n", "apparent\n", "heat −1 1 2\n", "\x00\n", "\xff\n",
	} {
		refused(t, first+line, 1, api.ErrSyntax)
		refused(t, first+line+third, 1, api.ErrSyntax)
		refused(t, first+second+line, 2, api.ErrSyntax)
		refused(t, first+second+third+line+line, 3, api.ErrSyntax)
	}
	// Each line has a line feed at its end.
	refused(t, "apparent 4000 5000", 0, api.ErrSyntax)
	refused(t, "apparent", 0, api.ErrSyntax)
	refused(t, first+"heat 100 4400 5400", 1, api.ErrSyntax)
	refused(t, first+second+"heat 300 3600 4600", 2, api.ErrSyntax)
	refused(t, first+second+third+"h", 3, api.ErrSyntax)
	refused(t, first+second+third+"\n", 3, api.ErrSyntax)
	// A line without the form comes before every fault of the table.
	refused(t, "apparent\nheat 100\nheat\n", 2, api.ErrSyntax)
	refused(t, "apparent 5000 4000\nheat 99999\nheat -99999 1 2 3\nhot 1\n", 3, api.ErrSyntax)
}

// P19.4: texts that have the form, but no right table.
func TestParseFindsFaults(t *testing.T) {
	for _, x := range wrongTables() {
		if len(x.g.Heats) != len(x.g.True) {
			continue
		}
		if text := printed(x.g); wrongLine(text) == -1 {
			refused(t, text, -1, x.e)
		}
	}
	for text, e := range map[string]api.Errno{
		"apparent\n": api.ErrEmpty, "apparent 1\n": api.ErrEmpty, "apparent 1 2\n": api.ErrEmpty, "apparent 1 2\nheat 1 2 3\n": api.ErrEmpty, "apparent\nheat 1\nheat 2\n": api.ErrEmpty, "apparent 1\nheat 1 1\nheat 2 1\n": api.ErrEmpty,
		"apparent 1 2\nheat 1\nheat 2\n": api.ErrMismatch, "apparent 1 2\nheat 1 2\nheat 2 2\n": api.ErrMismatch, "apparent 1 2\nheat 1 2 3\nheat 2 1 2 3\n": api.ErrMismatch, "apparent 1 2 3\nheat 1 2 3\nheat 2 1 2\n": api.ErrMismatch,
		"apparent 1 2\nheat -401 2 3\nheat 2 1 2\n": api.ErrRange, "apparent 1 2\nheat -99999 2 3\nheat 2 1 2\n": api.ErrRange, "apparent 1 2\nheat 1 2 3\nheat 601 1 2\n": api.ErrRange, "apparent 1 2\nheat 1 2 3\nheat 99999 1 2\n": api.ErrRange,
		"apparent 1 10001\nheat 1 2 3\nheat 2 1 2\n": api.ErrRange, "apparent 1 99999\nheat 1 2 3\nheat 2 1 2\n": api.ErrRange, "apparent 1 2\nheat 1 2 10001\nheat 2 1 2\n": api.ErrRange,
		"apparent 2 2\nheat 1 2 3\nheat 2 1 2\n": api.ErrOrder, "apparent 1 2\nheat 1 2 3\nheat 1 1 2\n": api.ErrOrder, "apparent 1 2\nheat -1 2 3\nheat -2 1 2\n": api.ErrOrder,
		"apparent 1 2\nheat 1 3 2\nheat 2 1 2\n": api.ErrConflict, "apparent 1 2\nheat 1 2 3\nheat 2 3 3\n": api.ErrConflict,
		"apparent 1 2\n" + strings.Repeat("heat 1 1 1\n", mostGrid+1): api.ErrTooLarge, "apparent" + strings.Repeat(" 1", mostGrid+1) + "\nheat 1\nheat 1\n": api.ErrTooLarge,
	} {
		refused(t, text, -1, e)
	}
}

// P19.4: texts up to the greatest length, and longer ones.
func TestParseLength(t *testing.T) {
	fit := "apparent" + strings.Repeat(" 1", (api.MaxData-9)/2) + "\n"
	for len(fit) < api.MaxData {
		fit = strings.Replace(fit, " 1", " 12", 1)
	}
	refused(t, fit, -1, api.ErrEmpty)
	refused(t, fit[:len(fit)-1], 0, api.ErrSyntax)
	refused(t, strings.Replace(fit, " 1", " 11", 1), -1, api.ErrTooLarge)
	lines := "apparent 1 2\n" + strings.Repeat("heat 1\n", (api.MaxData-13)/7)
	refused(t, lines, -1, api.ErrTooLarge)
	refused(t, lines+"?", (api.MaxData-13)/7+1, api.ErrSyntax)
	// Too long a text is not read, whatever is wrong with it.
	for _, text := range []string{strings.Repeat("\n", api.MaxData+1), strings.Repeat("heat 1\n", api.MaxData), strings.Repeat("x", api.MaxData+1)} {
		refused(t, text, -1, api.ErrTooLarge)
	}
	refused(t, strings.Repeat("x", api.MaxData), 0, api.ErrSyntax)
	refused(t, strings.Repeat("\n", api.MaxData), 0, api.ErrSyntax)
}

var (
	apparentLine = regexp.MustCompile(`^apparent( (0|[1-9][0-9]{0,4}))*\n$`)
	heatLine     = regexp.MustCompile(`^heat (0|-?[1-9][0-9]{0,4})( (0|[1-9][0-9]{0,4}))*\n$`)
)

// wrongLine returns the number of the first line of a text that does not have the form, or -1.
func wrongLine(text string) int {
	for i, line := range strings.SplitAfter(text, "\n") {
		form := heatLine
		if i == 0 {
			form = apparentLine
		}
		if (i == 0 || line != "") && !form.MatchString(line) {
			return i
		}
	}
	return -1
}

// P19.4 and P19.5: texts with every byte changed, put in or left out, against the form; what is accepted is the text of its table.
func TestParseChanged(t *testing.T) {
	check := func(text string) {
		got, line, e := correct.Parse(text)
		want := wrongLine(text)
		if (e == api.ErrSyntax) != (want >= 0) || line != want {
			t.Fatalf("%q %v %v %v", text, got, line, e)
		}
		if e == api.OK {
			if again, f := correct.Print(got); again != text || f != api.OK {
				t.Fatalf("%q %q %v", text, again, f)
			}
			return
		}
		if !isZero(got) {
			t.Fatalf("%q %v", text, got)
		}
	}
	for _, g := range []api.Grid{example(), grid([]int{-10, -1, 0}, []int{0, most}, []int{9, 10}, []int{0, 1}, []int{0, 0}), grid([]int{1, 2}, []int{3, 12}, []int{5, 56}, []int{4, 5})} {
		text := printed(g)
		for i := range len(text) + 1 {
			for b := range 256 {
				check(text[:i] + string([]byte{byte(b)}) + text[i:])
				if i < len(text) {
					check(text[:i] + string([]byte{byte(b)}) + text[i+1:])
				}
			}
			check(text[:i])
			check(text[i:])
			if i < len(text) {
				check(text[:i] + text[i+1:])
			}
		}
	}
}

// P19.1 to P19.4: a table with a fault comes before everything else.
func TestWrongTables(t *testing.T) {
	for _, x := range wrongTables() {
		for _, n := range extremes {
			for _, m := range extremes {
				if s, e := correct.True(x.g, n, m); s != 0 || e != api.ErrArg {
					t.Error(x, n, m, s, e)
				}
				if a, e := correct.Apparent(x.g, n, m); a != 0 || e != api.ErrArg {
					t.Error(x, n, m, a, e)
				}
				if b, e := correct.Around(x.g, 100, 4000, n, m); b != (api.Bounds{}) || e != api.ErrArg {
					t.Error(x, n, m, b, e)
				}
				if b, e := correct.Around(x.g, n, m, 0, 0); b != (api.Bounds{}) || e != api.ErrArg {
					t.Error(x, n, m, b, e)
				}
			}
		}
		if text, e := correct.Print(x.g); text != "" || e != api.ErrArg {
			t.Error(x, text, e)
		}
	}
}

// Arguments are not changed, nor is what lies behind them in the same memory; the lists of a result share no memory.
func TestMemory(t *testing.T) {
	memory := []int{100, 300, 4000, 5000, 4400, 5400, 3600, 4600, 7}
	g := grid(memory[:2], memory[2:4], memory[4:6], memory[6:8])
	before := slices.Clone(memory)
	correct.Check(g)
	correct.True(g, 200, 4500)
	correct.Apparent(g, 200, 4500)
	correct.Around(g, 200, 4500, 10, 20)
	correct.Print(g)
	if !slices.Equal(memory, before) {
		t.Error(memory)
	}
	text := printed(falling(5, 6, 7, 8, 9, 10))
	got, _, _ := correct.Parse(text)
	want := clone(got)
	lists := append([][]int{got.Heats, got.Apparent}, got.True...)
	for i := range lists {
		clear(lists[i][:cap(lists[i])])
		for k, l := range append([][]int{want.Heats, want.Apparent}, want.True...) {
			if k > i && !slices.Equal(lists[k], l) {
				t.Error(i, k, lists[k])
			}
		}
	}
	got.True = append(got.True[:0], nil, nil)
	if again, _, _ := correct.Parse(text); !same(again, want) {
		t.Error(again)
	}
}

// P1: no function panics, for all arguments.
func TestNoPanic(t *testing.T) {
	for _, a := range extremes {
		for _, b := range extremes {
			all := []api.Grid{{}, example(), grid([]int{a, b}, []int{0, most}, []int{a, b}, []int{a, b}), grid([]int{a, b}, []int{a, b}, []int{2, 3}, []int{1, 2}), grid([]int{100, 300}, []int{a, b}, []int{2, 3}, []int{1, 2}), grid([]int{a}, []int{b}, []int{a}), grid([]int{a, b}, nil, nil, nil), grid(nil, []int{a, b})}
			for _, g := range all {
				correct.Check(g)
				correct.True(g, a, b)
				correct.Apparent(g, a, b)
				correct.Around(g, a, b, b, a)
				correct.Around(g, 200, 4500, a, b)
				correct.Print(g)
			}
		}
	}
	for _, text := range []string{"", "\n", " ", "apparent", "heat", "apparent\n", "apparent \n\n", "apparent\nheat", "apparent\nheat\n", "apparent\nheat \n", "\x00", "\xff\n"} {
		correct.Parse(text)
	}
}
