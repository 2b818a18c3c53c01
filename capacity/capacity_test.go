package capacity_test

import (
	"math"
	"math/big"
	"slices"
	"strconv"
	"strings"
	"testing"

	"spile/api"
	"spile/capacity"
	"spile/cask"
	"spile/profile"
)

const most = api.MaxLength

// points returns points with the X and the radii that follow one another.
func points(l ...int) []api.Point {
	var all []api.Point
	for i := 0; i < len(l); i += 2 {
		all = append(all, api.Point{X: l[i], Radius: l[i+1]})
	}
	return all
}

// barrel is the cask of the example of layer 9.
func barrel() api.Cask {
	return api.Cask{Name: "A-1", Position: api.Lying, Profile: points(0, 300, 500, 400, 1000, 300), Declared: 500}
}

// with returns a barrel that was changed.
func with(change func(c *api.Cask)) api.Cask {
	c := barrel()
	change(&c)
	return c
}

// declaring returns a barrel with another declared volume.
func declaring(n int) api.Cask {
	return with(func(c *api.Cask) { c.Declared = n })
}

// of returns a cask with a profile.
func of(l []api.Point) api.Cask {
	return with(func(c *api.Cask) { c.Profile = l })
}

// row returns a profile with the most points.
func row(step, radius, last int) []api.Point {
	l := make([]api.Point, api.MaxPoints)
	for i := range l {
		l[i] = api.Point{X: i * step, Radius: radius}
	}
	l[api.MaxPoints-1].Radius = last
	return l
}

// rightOnes are profiles that are right: short and long, cylinders, cones, and steep ones.
func rightOnes() [][]api.Point {
	return [][]api.Point{
		barrel().Profile,
		points(0, 3, 10, 3),
		points(0, 1, 1, 1),
		points(0, 1, 1, 2),
		points(0, 2, 1, 1),
		points(0, 3, 7, 5),
		points(0, 5, 7, 3),
		points(0, 1, 100, 90, 101, 90, 150, 1),
		points(0, 7, 3, 8, 9, 8, 10, 20, 13, 20, 31, 5, 32, 5),
		points(0, 5000, 8000, 6000, 16000, 5000),
		points(0, 1, most, most),
		points(0, most, most, 1),
		points(0, most, most, most),
		points(0, most, 1, most),
		points(0, 1, 49999, most, 50000, most, most, 1),
		row(2, 9, 8),
		row(3, 9, 11),
		row(3225, most, most),
		row(3225, most, most-1),
	}
}

// faultyProfiles are lists of points with the first fault of each.
func faultyProfiles() map[api.Errno][]api.Point {
	return map[api.Errno][]api.Point{
		api.ErrEmpty:    points(0, 5),
		api.ErrTooLarge: make([]api.Point, api.MaxPoints+1),
		api.ErrRange:    points(1, 0, 1, most+1),
		api.ErrOrder:    points(1, 0, 5, 5),
		api.ErrZero:     points(0, 5, 1, 4, 2, 5, 3, 0),
		api.ErrMismatch: points(0, 5, 1, 4, 2, 5),
	}
}

// faultyCask is a cask with its first fault.
type faultyCask struct {
	c    api.Cask
	want api.Errno
}

// faultyCasks are casks with their first faults.
func faultyCasks() []faultyCask {
	l := []faultyCask{
		{api.Cask{}, api.ErrName},
		{with(func(c *api.Cask) { c.Name, c.Position, c.Profile = "ä", 0, nil }), api.ErrName},
		{with(func(c *api.Cask) { c.Position, c.Profile = 3, nil }), api.ErrRange},
		{declaring(-1), api.ErrRange},
		{declaring(api.MaxVolume + 1), api.ErrRange},
		{of(nil), api.ErrEmpty},
	}
	for e, profile := range faultyProfiles() {
		l = append(l, faultyCask{of(profile), e})
	}
	return l
}

// number returns a great number.
func number(n int) *big.Int {
	return big.NewInt(int64(n))
}

// frustums returns the sum of frustums of a profile.
func frustums(l []api.Point) *big.Int {
	sum := new(big.Int)
	for i := 1; i < len(l); i++ {
		p, q := number(l[i-1].Radius), number(l[i].Radius)
		squares := new(big.Int).Mul(p, p)
		squares.Add(squares, new(big.Int).Mul(p, q))
		squares.Add(squares, new(big.Int).Mul(q, q))
		sum.Add(sum, squares.Mul(squares, number(l[i].X-l[i-1].X)))
	}
	return sum
}

// fraction returns a number times a / b.
func fraction(n *big.Int, a, b int) *big.Rat {
	return new(big.Rat).Mul(new(big.Rat).SetInt(n), big.NewRat(int64(a), int64(b)))
}

// down returns a number, rounded down.
func down(r *big.Rat) *big.Int {
	return new(big.Int).Div(r.Num(), r.Denom())
}

// up returns a number, rounded up.
func up(r *big.Rat) *big.Int {
	n := down(new(big.Rat).Neg(r))
	return n.Neg(n)
}

// space returns the bounds of the space with a sum of frustums.
func space(sum *big.Int) (*big.Int, *big.Int) {
	return down(fraction(sum, 333, 318)), up(fraction(sum, 355, 339))
}

// volume returns the bounds of a space in millilitres.
func volume(low, high *big.Int) (*big.Int, *big.Int) {
	return down(fraction(low, 1, 1000000)), up(fraction(high, 1, 1000000))
}

// equal reports whether bounds are two great numbers.
func equal(b api.Bounds, low, high *big.Int) bool {
	return number(b.Low).Cmp(low) == 0 && number(b.High).Cmp(high) == 0
}

// bounds returns bounds.
func bounds(low, high int) api.Bounds {
	return api.Bounds{Low: low, High: high}
}

// P10.1: the examples of the document, and the greatest and the least profile.
func TestExamples(t *testing.T) {
	for _, x := range []struct {
		l      []api.Point
		sum    int
		space  api.Bounds
		volume api.Bounds
	}{
		{points(0, 3, 10, 3), 270, bounds(282, 283), bounds(0, 1)},
		{barrel().Profile, 370000000, bounds(387452830, 387463127), bounds(387, 388)},
		{points(0, 1, 1, 1), 3, bounds(3, 4), bounds(0, 1)},
		{points(0, 1, 1, 2), 7, bounds(7, 8), bounds(0, 1)},
		{points(0, 2, 4, 4), 112, bounds(117, 118), bounds(0, 1)},
		// 106 and 113 times 3: one of the bounds is an integer.
		{points(0, 1, 106, 1), 318, bounds(333, 334), bounds(0, 1)},
		{points(0, 1, 113, 1), 339, bounds(354, 355), bounds(0, 1)},
		{points(0, most, most, most), 3000000000000000, bounds(3141509433962264, 3141592920353983), bounds(3141509433, 3141592921)},
	} {
		if got, e := capacity.Frustums(x.l); got != x.sum || e != api.OK {
			t.Error("Frustums", x, got, e)
		}
		if got, e := capacity.Space(x.l); got != x.space || e != api.OK {
			t.Error("Space", x, got, e)
		}
		if got, e := capacity.Volume(of(x.l)); got != x.volume || e != api.OK {
			t.Error("Volume", x, got, e)
		}
	}
}

// P10.1: profiles of all kinds, against the definitions in great numbers.
func TestSpaceAndVolume(t *testing.T) {
	check := func(l []api.Point) {
		t.Helper()
		before := slices.Clone(l)
		sum := frustums(l)
		low, high := space(sum)
		if got, e := capacity.Frustums(l); number(got).Cmp(sum) != 0 || e != api.OK {
			t.Fatal("Frustums", l, got, sum, e)
		}
		if got, e := capacity.Space(l); !equal(got, low, high) || e != api.OK {
			t.Fatal("Space", l, got, low, high, e)
		}
		least, greatest := volume(low, high)
		for _, position := range []int{api.Lying, api.Standing} {
			c := with(func(c *api.Cask) { c.Profile, c.Position = l, position })
			if got, e := capacity.Volume(c); !equal(got, least, greatest) || e != api.OK {
				t.Fatal("Volume", c, got, least, greatest, e)
			}
		}
		if !slices.Equal(l, before) {
			t.Fatal("changed", l)
		}
	}
	for _, l := range rightOnes() {
		check(l)
	}
	// Lengths around those at which a bound is an integer number of millilitres.
	for x := range 700 {
		check(points(0, 100, x+1, 100))
		check(points(0, 1000, 106*(x+1), 1000))
	}
	for a := 1; a < 30; a++ {
		for b := 1; b < 30; b++ {
			check(points(0, a, 7, b))
			check(points(0, a, 3, max(a, b), 11, b))
		}
	}
}

// P10.1: what encloses a space contains pi / 3 times the sum, and so the volume.
func TestPi(t *testing.T) {
	// The first digits of pi, rounded down and up.
	low, _ := new(big.Rat).SetString("3.14159265358979323846264338327950288")
	high, _ := new(big.Rat).SetString("3.14159265358979323846264338327950289")
	for _, l := range rightOnes() {
		third := fraction(frustums(l), 1, 3)
		got, _ := capacity.Space(l)
		if new(big.Rat).SetInt(number(got.Low)).Cmp(new(big.Rat).Mul(third, low)) > 0 {
			t.Error(l, got)
		}
		if new(big.Rat).SetInt(number(got.High)).Cmp(new(big.Rat).Mul(third, high)) < 0 {
			t.Error(l, got)
		}
		v, _ := capacity.Volume(of(l))
		if v.Low*1000000 > got.Low || v.High*1000000 < got.High {
			t.Error(l, v, got)
		}
	}
}

// P10.1: the first fault of a profile, and of a cask.
func TestFaults(t *testing.T) {
	for e, l := range faultyProfiles() {
		if got, f := capacity.Frustums(l); got != 0 || f != e {
			t.Error("Frustums", l, got, f)
		}
		if got, f := capacity.Space(l); got != (api.Bounds{}) || f != e {
			t.Error("Space", l, got, f)
		}
	}
	for _, l := range [][]api.Point{nil, {}} {
		if got, e := capacity.Frustums(l); got != 0 || e != api.ErrEmpty {
			t.Error("Frustums", l, got, e)
		}
		if got, e := capacity.Space(l); got != (api.Bounds{}) || e != api.ErrEmpty {
			t.Error("Space", l, got, e)
		}
	}
	for _, x := range faultyCasks() {
		if got, e := capacity.Volume(x.c); got != (api.Bounds{}) || e != x.want {
			t.Error("Volume", x, got, e)
		}
	}
}

// P10.2: the first fault of a cask comes before a tolerance and a volume that are out of range.
func TestFaultsComeFirst(t *testing.T) {
	for _, x := range faultyCasks() {
		for _, n := range []int{0, 10, -1, 1001, api.MaxVolume + 1, math.MinInt, math.MaxInt} {
			if got, e := capacity.Agrees(x.c, n); got != 0 || e != x.want {
				t.Error("Agrees", x, n, got, e)
			}
			if got, e := capacity.Room(x.c, n); got != (api.Bounds{}) || e != x.want {
				t.Error("Room", x, n, got, e)
			}
		}
	}
}

// P10.2: the example of the document, both ends of each answer, and tolerances that leave a part of a millilitre.
func TestAgreesExamples(t *testing.T) {
	const yes, no, open = api.AnswerYes, api.AnswerNo, api.AnswerOpen
	tiny := func(n int) api.Cask {
		return with(func(c *api.Cask) { c.Profile, c.Declared = points(0, 3, 10, 3), n })
	}
	for _, x := range []struct {
		c               api.Cask
		tolerance, want int
	}{
		// The volume is between 387 and 388.
		{declaring(500), 10, no}, {declaring(500), 250, yes},
		{declaring(500), 223, no}, {declaring(500), 224, open}, {declaring(500), 225, open}, {declaring(500), 226, yes},
		{declaring(387), 0, open}, {declaring(388), 0, open}, {declaring(386), 0, no}, {declaring(389), 0, no},
		{declaring(387), 2, open}, {declaring(387), 3, yes}, {declaring(388), 2, open}, {declaring(388), 3, yes},
		{declaring(386), 2, no}, {declaring(386), 3, open}, {declaring(386), 5, open}, {declaring(386), 6, yes},
		{declaring(389), 2, no}, {declaring(389), 3, open}, {declaring(389), 5, open}, {declaring(389), 6, yes},
		{declaring(0), 0, no}, {declaring(0), 1000, no}, {declaring(1), 1000, no},
		{declaring(193), 1000, no}, {declaring(194), 994, no}, {declaring(194), 995, open}, {declaring(194), 999, open}, {declaring(194), 1000, yes},
		{declaring(774), 500, yes}, {declaring(775), 500, open}, {declaring(776), 500, open}, {declaring(776), 501, open}, {declaring(776), 502, yes}, {declaring(777), 500, no}, {declaring(778), 500, no},
		{declaring(api.MaxVolume), 999, no}, {declaring(api.MaxVolume), 1000, yes},
		{declaring(387000), 998, no}, {declaring(387000), 999, yes}, {declaring(388000), 999, open}, {declaring(389000), 999, no}, {declaring(389000), 1000, yes},
		// The volume is between 0 and 1.
		{tiny(0), 0, open}, {tiny(0), 1000, open}, {tiny(1), 0, open}, {tiny(1), 999, open}, {tiny(1), 1000, yes},
		{tiny(2), 0, no}, {tiny(2), 499, no}, {tiny(2), 500, open}, {tiny(2), 999, open}, {tiny(2), 1000, yes},
		// The volume is between 3141509433 and 3141592921, which is greater than any declared one can be.
		{with(func(c *api.Cask) { c.Profile, c.Declared = points(0, most, most, most), api.MaxVolume }), 1000, no},
	} {
		if got, e := capacity.Agrees(x.c, x.tolerance); got != x.want || e != api.OK {
			t.Error(x.c.Declared, x.tolerance, got, x.want, e)
		}
	}
	for _, tolerance := range []int{-1, 1001, math.MinInt, math.MaxInt} {
		if got, e := capacity.Agrees(barrel(), tolerance); got != 0 || e != api.ErrRange {
			t.Error(tolerance, got, e)
		}
	}
}

// answer returns the answer by the definition, in thousandths of a millilitre.
func answer(volume api.Bounds, declared, tolerance int) int {
	agrees := func(v int) bool {
		difference := max(v-declared, declared-v)
		return 1000*difference <= tolerance*declared
	}
	low, high := agrees(volume.Low), agrees(volume.High)
	switch {
	case low && high:
		return api.AnswerYes
	case !low && !high && volume.Low > declared && volume.High > declared:
		return api.AnswerNo
	case !low && !high && volume.Low < declared && volume.High < declared:
		return api.AnswerNo
	}
	return api.AnswerOpen
}

// P10.2 and P10.3: declared volumes and tolerances of all sizes, against the definition; a greater tolerance never turns yes into no.
func TestAgrees(t *testing.T) {
	answers := map[int]int{}
	for _, l := range rightOnes() {
		v, _ := capacity.Volume(of(l))
		for _, declared := range []int{0, 1, 2, 3, 999, 1000, 1001, v.Low - 1, v.Low, v.Low + 1, v.High - 1, v.High, v.High + 1, 2 * v.Low, v.High / 2, api.MaxVolume - 1, api.MaxVolume} {
			if declared < 0 || declared > api.MaxVolume {
				continue
			}
			before := 0
			for tolerance := range 1001 {
				c := with(func(c *api.Cask) { c.Profile, c.Declared = l, declared })
				got, e := capacity.Agrees(c, tolerance)
				if got != answer(v, declared, tolerance) || e != api.OK {
					t.Fatal(c, tolerance, got, e)
				}
				if before == api.AnswerYes && got != before || before == api.AnswerOpen && got == api.AnswerNo {
					t.Fatal("turned", c, tolerance, got)
				}
				before = got
				answers[got]++
			}
		}
	}
	if len(answers) != 3 {
		t.Error(answers)
	}
}

// P10.2: what is too wide to be yes or no stays open: the bounds are on both sides of what the tolerance allows.
func TestAgreesOnBothSides(t *testing.T) {
	wide := points(0, 50000, 90000, 50000)
	v, _ := capacity.Volume(of(wide))
	if v.High-v.Low < 10000 || v.High > api.MaxVolume {
		t.Fatal(v)
	}
	c := with(func(c *api.Cask) { c.Profile, c.Declared = wide, (v.Low+v.High)/2 })
	if got, e := capacity.Agrees(c, 0); got != api.AnswerOpen || e != api.OK {
		t.Error(got, e)
	}
	if got, e := capacity.Agrees(c, 1); got != api.AnswerYes || e != api.OK {
		t.Error(got, e)
	}
}

// P10.2: the room above no volume, above some, up to both bounds and beyond.
func TestRoom(t *testing.T) {
	great := of(points(0, most, most, most))
	for _, x := range []struct {
		c    api.Cask
		v    int
		want api.Bounds
	}{
		{barrel(), 0, bounds(387, 388)},
		{barrel(), 1, bounds(386, 387)},
		{barrel(), 386, bounds(1, 2)},
		{barrel(), 387, bounds(0, 1)},
		{barrel(), 388, bounds(0, 0)},
		{barrel(), 389, bounds(0, 0)},
		{barrel(), api.MaxVolume, bounds(0, 0)},
		{declaring(0), 100, bounds(287, 288)},
		{great, 0, bounds(3141509433, 3141592921)},
		{great, api.MaxVolume, bounds(2067767609, 2067851097)},
	} {
		if got, e := capacity.Room(x.c, x.v); got != x.want || e != api.OK {
			t.Error(x, got, e)
		}
	}
	for _, v := range []int{-1, api.MaxVolume + 1, math.MinInt, math.MaxInt} {
		if got, e := capacity.Room(barrel(), v); got != (api.Bounds{}) || e != api.ErrRange {
			t.Error(v, got, e)
		}
	}
	for _, l := range rightOnes() {
		volume, _ := capacity.Volume(of(l))
		for _, v := range []int{0, 1, 100, volume.Low - 1, volume.Low, volume.High - 1, volume.High, volume.High + 1, api.MaxVolume} {
			if v < 0 || v > api.MaxVolume {
				continue
			}
			want := bounds(max(0, volume.Low-v), max(0, volume.High-v))
			if got, e := capacity.Room(of(l), v); got != want || e != api.OK {
				t.Error(l, v, got, want, e)
			}
		}
	}
}

// P10.2: the sums of the bounds of all casks, of none, and of the most and greatest ones; the first fault of a list.
func TestTotal(t *testing.T) {
	var all []api.Cask
	var want api.Bounds
	for i := range api.MaxLots {
		c := of(rightOnes()[i%len(rightOnes())])
		c.Name = strconv.Itoa(i)
		if got, e := capacity.Total(all); got != want || e != api.OK {
			t.Error(i, got, want, e)
		}
		all = append(all, c)
		v, _ := capacity.Volume(c)
		want.Low += v.Low
		want.High += v.High
	}
	if got, e := capacity.Total(all); got != want || e != api.OK {
		t.Error(got, want, e)
	}
	for i := range all {
		all[i].Profile = points(0, most, most, most)
	}
	if got, e := capacity.Total(all); got != bounds(32*3141509433, 32*3141592921) || e != api.OK {
		t.Error(got, e)
	}
	refused := func(l []api.Cask, want api.Errno) {
		t.Helper()
		if got, e := capacity.Total(l); got != (api.Bounds{}) || e != want {
			t.Error(l, got, e)
		}
	}
	for _, x := range faultyCasks() {
		refused([]api.Cask{x.c}, x.want)
		refused([]api.Cask{barrel(), barrel(), x.c}, x.want)
	}
	refused([]api.Cask{barrel(), barrel()}, api.ErrTwice)
	refused(make([]api.Cask, api.MaxLots+1), api.ErrTooLarge)
	refused(append(all, with(func(c *api.Cask) { c.Name = "x" })), api.ErrTooLarge)
}

// P10.3: lower bounds are at most the upper ones, which are greater by less than a thirty-thousandth of them, and 2.
func TestNarrow(t *testing.T) {
	for _, l := range rightOnes() {
		space, _ := capacity.Space(l)
		volume, _ := capacity.Volume(of(l))
		for _, b := range []api.Bounds{space, volume} {
			if b.Low > b.High || 30000*(b.High-b.Low-2) >= b.High {
				t.Error(l, b)
			}
		}
	}
}

// P10.3: a point that is inserted, and turning, change no sum.
func TestInsertedAndTurned(t *testing.T) {
	for _, l := range rightOnes() {
		want, _ := capacity.Frustums(l)
		turned, _ := profile.Turn(l)
		if got, e := capacity.Frustums(turned); got != want || e != api.OK {
			t.Error(l, got, want, e)
		}
		inserted := 0
		for x := 1; x < l[len(l)-1].X && inserted < 50; x++ {
			more, e := profile.Insert(l, x)
			if e != api.OK {
				continue
			}
			inserted++
			if got, e := capacity.Frustums(more); got != want || e != api.OK {
				t.Error(l, x, got, want, e)
			}
		}
	}
}

// P10.3: a greater radius gives no lesser sum.
func TestGreaterRadius(t *testing.T) {
	for _, l := range rightOnes() {
		before, _ := capacity.Frustums(l)
		for i := range l {
			greater := slices.Clone(l)
			greater[i].Radius++
			if profile.Check(greater) != api.OK {
				continue
			}
			if got, e := capacity.Frustums(greater); got <= before || e != api.OK {
				t.Error(l, i, got, before, e)
			}
		}
	}
}

// P10.3: profiles of a length are sums of their parts.
func TestParts(t *testing.T) {
	for _, l := range rightOnes() {
		want, _ := capacity.Frustums(l)
		for i := 1; i < len(l)-1; i++ {
			behind := slices.Clone(l[i:])
			for k := range behind {
				behind[k].X -= l[i].X
			}
			first, e := capacity.Frustums(l[:i+1])
			second, f := capacity.Frustums(behind)
			if first+second != want || e != api.OK || f != api.OK {
				t.Error(l, i, first, second, want)
			}
		}
	}
}

// Arguments are not changed.
func TestArgumentsStay(t *testing.T) {
	all := []api.Cask{barrel(), with(func(c *api.Cask) { c.Name = "B" })}
	text, _ := cask.Print(all)
	capacity.Frustums(all[0].Profile)
	capacity.Space(all[0].Profile)
	capacity.Volume(all[0])
	capacity.Agrees(all[0], 10)
	capacity.Room(all[0], 10)
	capacity.Total(all)
	if got, _ := cask.Print(all); got != text || !strings.HasPrefix(text, "cask A-1 lying declared 500\n") {
		t.Error(all)
	}
}

// P1: no function panics, for all arguments.
func TestNoPanic(t *testing.T) {
	all := []int{math.MinInt, -1, 0, 1, 2, 1000, most, most + 1, api.MaxVolume, api.MaxVolume + 1, math.MaxInt}
	for _, a := range all {
		for _, b := range all {
			for _, x := range all {
				l := points(0, a, b, x)
				capacity.Frustums(l)
				capacity.Space(l)
				c := of(l)
				c.Position, c.Declared = b, x
				capacity.Volume(c)
				c.Position = api.Standing
				capacity.Agrees(c, a)
				capacity.Room(c, a)
				capacity.Agrees(barrel(), a)
				capacity.Room(barrel(), a)
				capacity.Total([]api.Cask{barrel(), c})
			}
		}
	}
}
