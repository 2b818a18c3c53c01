package age_test

import (
	"math"
	"math/big"
	"math/rand"
	"reflect"
	"slices"
	"strings"
	"testing"
	"time"

	"spile/age"
	"spile/api"
	"spile/family"
)

// extremes are numbers at and beyond all limits.
var extremes = []int{math.MinInt, math.MinInt + 1, -1, 0, 1, 2, 3, 7, 300, 301, api.MaxDay, api.MaxDay + 1, api.MaxID, api.MaxID + 1, api.MaxAlcohol, api.MaxMass, 1 << 62, math.MaxInt}

// noIDs are numbers that are no IDs.
var noIDs = []int{0, -1, api.MaxID + 1, math.MinInt, math.MaxInt}

// noDays are numbers that are no days.
var noDays = []int{-1, api.MaxDay + 1, math.MinInt, math.MaxInt}

// noYears are numbers that are out of range as years, some of which are in range again if they are multiplied by 12 with 64 bits.
var noYears = []int{-1, -2, api.MaxYears + 1, math.MinInt, math.MaxInt, 1 << 62, math.MinInt + 1<<62, math.MinInt/12 - 1, math.MaxInt/12 + 1}

// fillOf returns a right fill with an ID and a day.
func fillOf(id, day int) api.Fill {
	return api.Fill{ID: id, Class: 1 + id%8, Day: day, Origin: "Islay", Allergens: []string{"gluten", "milk"}}
}

// lotOf returns the lot with an ID, and the fills and the alcohol that follow one another.
func lotOf(id int, l ...int) api.Lot {
	x := api.Lot{ID: id, Liquid: api.Liquid{Mass: 100}}
	for i := 0; i < len(l); i += 2 {
		x.Shares = append(x.Shares, api.Share{Fill: l[i], Alcohol: l[i+1]})
		x.Liquid.Alcohol += l[i+1]
	}
	return x
}

// example is the cellar of the example of the document, with a lot of water, and a fill that is nowhere.
func example() api.Cellar {
	return api.Cellar{Fills: []api.Fill{fillOf(1, 0), fillOf(2, 400), fillOf(3, 900)}, Lots: []api.Lot{lotOf(5, 1, 10, 2, 30), lotOf(6), lotOf(7, 1, 5)}}
}

// ownCellar returns a cellar of its own.
func ownCellar(c api.Cellar) api.Cellar {
	d := api.Cellar{Fills: slices.Clone(c.Fills), Lots: slices.Clone(c.Lots), Removed: slices.Clone(c.Removed), Last: c.Last}
	for i, f := range d.Fills {
		d.Fills[i].Allergens = slices.Clone(f.Allergens)
	}
	for i, x := range d.Lots {
		d.Lots[i].Shares = slices.Clone(x.Shares)
	}
	return d
}

// dayOf returns the day of a date of Go's library.
func dayOf(d time.Time) int {
	return int(d.Sub(time.Date(1900, 1, 1, 0, 0, 0, 0, time.UTC)).Hours()) / 24
}

// yearsLater returns the day that is so many years later, by Go's library.
func yearsLater(day, years int) int {
	d := time.Date(1900, 1, 1+day, 0, 0, 0, 0, time.UTC)
	y, m, dd := d.Year()+years, d.Month(), d.Day()
	last := time.Date(y, m+1, 0, 0, 0, 0, 0, time.UTC)
	return min(dayOf(time.Date(y, m, dd, 0, 0, 0, 0, time.UTC)), dayOf(last))
}

// fullYears returns the full years from a day to another one that is not earlier.
func fullYears(from, to int) int {
	// No year is longer than 366 days.
	n := (to - from) / 366
	for yearsLater(from, n+1) <= to {
		n++
	}
	return n
}

// sameFill reports whether two fills are the same; those without allergens may have an empty list.
func sameFill(f, g api.Fill) bool {
	return f.ID == g.ID && f.Class == g.Class && f.Day == g.Day && f.Origin == g.Origin && slices.Equal(f.Allergens, g.Allergens)
}

// lotIn returns the lot with an ID that is there.
func lotIn(c api.Cellar, id int) api.Lot {
	return c.Lots[slices.IndexFunc(c.Lots, func(x api.Lot) bool { return x.ID == id })]
}

// fillIn returns the fill with an ID that is there.
func fillIn(c api.Cellar, id int) api.Fill {
	return c.Fills[slices.IndexFunc(c.Fills, func(f api.Fill) bool { return f.ID == id })]
}

// youngestOf returns the youngest fill of a lot with shares: all others are earlier, or have a greater ID.
func youngestOf(c api.Cellar, id int) api.Fill {
	l := slices.SortedFunc(func(yield func(api.Fill) bool) {
		for _, s := range lotIn(c, id).Shares {
			yield(fillIn(c, s.Fill))
		}
	}, func(f, g api.Fill) int {
		if f.Day != g.Day {
			return g.Day - f.Day
		}
		return f.ID - g.ID
	})
	return l[0]
}

// checkYears compares Years and Mean of a lot with shares with the definition.
func checkYears(t *testing.T, c api.Cellar, id, day int) {
	t.Helper()
	y := youngestOf(c, id)
	years, failed := 0, api.OK
	q, r := new(big.Int), new(big.Int)
	switch {
	case day < 0 || day > api.MaxDay:
		failed = api.ErrRange
	case day < y.Day:
		failed = api.ErrOrder
	default:
		years = fullYears(y.Day, day)
		sum := new(big.Int)
		for _, s := range lotIn(c, id).Shares {
			days := big.NewInt(int64(day - fillIn(c, s.Fill).Day))
			sum.Add(sum, days.Mul(days, big.NewInt(int64(s.Alcohol))))
		}
		q.QuoRem(sum, big.NewInt(int64(lotIn(c, id).Liquid.Alcohol)), r)
		if q.Cmp(big.NewInt(int64(day-y.Day))) < 0 {
			t.Error(c, id, day, q)
		}
	}
	if got, e := age.Years(c, id, day); got != years || e != failed {
		t.Error(c, id, day, got, e, years, failed)
	}
	if got, rest, e := age.Mean(c, id, day); int64(got) != q.Int64() || int64(rest) != r.Int64() || e != failed {
		t.Error(c, id, day, got, rest, e, q, r, failed)
	}
}

// checkRipe compares Ripe of a lot with shares with the definition, and with its ages then and on the day before.
func checkRipe(t *testing.T, c api.Cellar, id, years int) {
	t.Helper()
	day, failed := 0, api.OK
	switch {
	case years < 0 || years > api.MaxYears:
		failed = api.ErrRange
	default:
		if day = yearsLater(youngestOf(c, id).Day, years); day > api.MaxDay {
			day, failed = 0, api.ErrLimit
		}
	}
	got, e := age.Ripe(c, id, years)
	if got != day || e != failed {
		t.Error(c, id, years, got, e, day, failed)
	}
	if e != api.OK {
		return
	}
	if n, e := age.Years(c, id, day); n < years || e != api.OK {
		t.Error(c, id, years, day, n, e)
	}
	if n, e := age.Years(c, id, day-1); years > 0 && (n >= years || e != api.OK) {
		t.Error(c, id, years, day, n, e)
	}
}

// checkOld compares Old with the definition.
func checkOld(t *testing.T, c api.Cellar, years, day int) {
	t.Helper()
	var want []int
	for _, x := range c.Lots {
		if len(x.Shares) == 0 {
			continue
		}
		if y := youngestOf(c, x.ID); y.Day <= day && fullYears(y.Day, day) >= years {
			want = append(want, x.ID)
		}
	}
	if got, e := age.Old(c, years, day); !slices.Equal(got, want) || e != api.OK {
		t.Error(c, years, day, got, e, want)
	}
}

// checkAll compares all functions with the definition, for some days and years, and checks that the cellar stays as it is.
func checkAll(t *testing.T, c api.Cellar, days, years []int) {
	t.Helper()
	before := ownCellar(c)
	for _, x := range c.Lots {
		if len(x.Shares) == 0 {
			continue
		}
		if f, e := age.Youngest(c, x.ID); !sameFill(f, youngestOf(c, x.ID)) || e != api.OK {
			t.Error(c, x.ID, f, e)
		}
		for _, day := range append(days, noDays...) {
			checkYears(t, c, x.ID, day)
		}
		for _, n := range append(years, noYears...) {
			checkRipe(t, c, x.ID, n)
		}
	}
	for _, day := range days {
		for _, n := range years {
			checkOld(t, c, n, day)
		}
	}
	if !reflect.DeepEqual(c, before) {
		t.Error("changed", c, before)
	}
}

// P25.1 to P25.3: the example of the document, and around its days.
func TestExample(t *testing.T) {
	c := example()
	if f, e := age.Youngest(c, 5); !sameFill(f, fillOf(2, 400)) || e != api.OK {
		t.Error(f, e)
	}
	if n, e := age.Years(c, 5, 1000); n != 1 || e != api.OK {
		t.Error(n, e)
	}
	if n, rest, e := age.Mean(c, 5, 1000); n != 700 || rest != 0 || e != api.OK {
		t.Error(n, rest, e)
	}
	if n, rest, e := age.Mean(c, 5, 1001); n != 701 || rest != 0 || e != api.OK {
		t.Error(n, rest, e)
	}
	if day, e := age.Ripe(c, 5, 2); day != 1130 || e != api.OK {
		t.Error(day, e)
	}
	for _, x := range []struct {
		years, day int
		want       []int
	}{{0, 0, []int{7}}, {0, 399, []int{7}}, {0, 400, []int{5, 7}}, {1, 364, nil}, {1, 365, []int{7}}, {1, 764, []int{7}}, {1, 765, []int{5, 7}}, {2, 1129, []int{7}}, {2, 1130, []int{5, 7}}, {273, api.MaxDay, []int{7}}, {274, api.MaxDay, nil}, {300, api.MaxDay, nil}} {
		if l, e := age.Old(c, x.years, x.day); !slices.Equal(l, x.want) || e != api.OK {
			t.Error(x, l, e)
		}
	}
	// A mean age that does not come out even: (10 * 401 + 30 * 1 + 3 * 401) / 43.
	c.Lots = []api.Lot{lotOf(1, 1, 10, 2, 30), lotOf(9, 1, 13, 2, 30)}
	if n, rest, e := age.Mean(c, 9, 401); n != (13*401+30)/43 || rest != (13*401+30)%43 || rest == 0 || e != api.OK {
		t.Error(n, rest, e)
	}
	checkAll(t, c, []int{0, 399, 400, 401, 764, 765, 1129, 1130, api.MaxDay}, []int{0, 1, 2, 272, 273, 274, 300})
}

// P25.1 and P25.4: of several fills with the latest day it is the one with the least ID, wherever they stand among the others.
func TestYoungest(t *testing.T) {
	for _, x := range []struct {
		days []int
		want int
	}{{[]int{5}, 1}, {[]int{5, 5}, 1}, {[]int{4, 5}, 2}, {[]int{5, 4}, 1}, {[]int{5, 5, 5}, 1}, {[]int{4, 5, 5}, 2}, {[]int{5, 4, 5}, 1}, {[]int{4, 4, 5}, 3}, {[]int{0, 0, 0}, 1}, {[]int{api.MaxDay, 0, api.MaxDay}, 1}, {[]int{0, api.MaxDay, 0}, 2}} {
		var c api.Cellar
		var l []int
		for i, day := range x.days {
			c.Fills = append(c.Fills, fillOf(i+1, day))
			l = append(l, i+1, 1+i)
		}
		// A later fill that the lot has nothing of does not matter.
		c.Fills = append(c.Fills, fillOf(100, api.MaxDay))
		c.Lots = []api.Lot{lotOf(3, l...), lotOf(4, 100, 1)}
		if f, e := age.Youngest(c, 3); !sameFill(f, c.Fills[x.want-1]) || e != api.OK {
			t.Error(x, f, e)
		}
		checkAll(t, c, []int{0, 3, 4, 5, 6, 370, 371, api.MaxDay - 1, api.MaxDay}, []int{0, 1, 273})
	}
}

// leaps are days around the ends of the Februaries of leap years, and of years that are none, and both ends of all days.
func leaps() []int {
	all := []int{0, 1, 58, 59, 60, api.MaxDay - 366, api.MaxDay - 365, api.MaxDay - 1, api.MaxDay}
	for _, year := range []int{1903, 1904, 1908, 1999, 2000, 2001, 2100, 2104} {
		first := dayOf(time.Date(year, 3, 1, 0, 0, 0, 0, time.UTC))
		all = append(all, first-2, first-1, first)
	}
	return all
}

// P25.1 to P25.4: fills of all days on which years begin and end, by themselves, on all such days.
func TestLeapYears(t *testing.T) {
	for _, from := range leaps() {
		c := api.Cellar{Fills: []api.Fill{fillOf(7, from)}, Lots: []api.Lot{lotOf(1, 7, 3)}}
		days := leaps()
		years := []int{0, 1, 2, 3, 4, 96, 100, 104, 272, 273, 274, 299, 300}
		for _, n := range years {
			later := yearsLater(from, n)
			days = append(days, max(later-1, 0), later, later+1)
		}
		days = slices.DeleteFunc(days, func(day int) bool { return day > api.MaxDay })
		checkAll(t, c, days, years)
	}
}

// random returns a sound cellar of some lots and fills whose days are near each other, or anywhere, with small or great amounts.
func random(r *rand.Rand) api.Cellar {
	var c api.Cellar
	first, width := r.Intn(api.MaxDay+1), []int{1, 3, 800, api.MaxDay}[r.Intn(4)]
	id := 0
	for range r.Intn(api.MaxShares + 1) {
		id += 1 + r.Intn(3)
		c.Fills = append(c.Fills, fillOf(id, min(first+r.Intn(width), api.MaxDay)))
	}
	most := []int{3, 1000, api.MaxAlcohol / api.MaxFills}[r.Intn(3)]
	id = 0
	for range r.Intn(7) {
		id += 1 + r.Intn(3)
		var l []int
		for _, k := range slices.Sorted(slices.Values(r.Perm(len(c.Fills))[:min(r.Intn(5)*8, len(c.Fills))])) {
			l = append(l, c.Fills[k].ID, 1+r.Intn(most))
		}
		c.Lots = append(c.Lots, lotOf(id, l...))
	}
	return c
}

// P25.1 to P25.4: random cellars against the definition; ages do not fall as days go by, and no lot is older than any of its fills.
func TestRandom(t *testing.T) {
	r := rand.New(rand.NewSource(25))
	for range 120 {
		c := random(r)
		var days, years []int
		for range 5 {
			days = append(days, r.Intn(api.MaxDay+1))
			years = append(years, r.Intn(api.MaxYears+1))
		}
		for range 5 {
			if len(c.Fills) > 0 {
				f := c.Fills[r.Intn(len(c.Fills))]
				days = append(days, min(f.Day+r.Intn(3), api.MaxDay), max(f.Day-r.Intn(3), 0), min(f.Day+365+r.Intn(3), api.MaxDay))
			}
			years = append(years, r.Intn(4))
		}
		slices.Sort(days)
		checkAll(t, c, days, years)
		for _, x := range c.Lots {
			last := 0
			for _, day := range days {
				n, e := age.Years(c, x.ID, day)
				if e != api.OK {
					continue
				}
				if n < last {
					t.Error(c, x.ID, day, n, last)
				}
				last = n
				for _, s := range x.Shares {
					if n > fullYears(fillIn(c, s.Fill).Day, day) {
						t.Error(c, x.ID, day, n, s)
					}
				}
			}
		}
	}
}

// P25.2: the greatest sum of all: all the alcohol that there may be, through all days.
func TestGreatestMean(t *testing.T) {
	c := api.Cellar{Fills: []api.Fill{fillOf(1, 0), fillOf(2, 1)}, Lots: []api.Lot{lotOf(1, 1, api.MaxAlcohol), lotOf(2, 1, api.MaxAlcohol-1, 2, 1)}}
	if n, rest, e := age.Mean(c, 1, api.MaxDay); n != api.MaxDay || rest != 0 || e != api.OK {
		t.Error(n, rest, e)
	}
	if n, rest, e := age.Mean(c, 2, api.MaxDay); n != api.MaxDay-1 || rest != api.MaxAlcohol-1 || e != api.OK {
		t.Error(n, rest, e)
	}
	checkAll(t, c, []int{0, 1, 2, api.MaxDay - 1, api.MaxDay}, []int{0, 273, 274})
}

// P25.1 to P25.3: cellars behind steps are sound.
func TestBehindSteps(t *testing.T) {
	c, _, e := family.Fold([]api.Step{
		{ID: 1, Kind: api.StepFill, To: 5, Alcohol: 60, Mass: 100, Fill: fillOf(9, 36584)},
		{ID: 2, Kind: api.StepFill, To: 6, Alcohol: 40, Mass: 100, Fill: fillOf(3, 40000)},
		{ID: 3, Kind: api.StepMove, From: 5, To: 6, Mass: 50},
		{ID: 4, Kind: api.StepWater, To: 7, Mass: 50},
		{ID: 5, Kind: api.StepRemove, From: 5, Mass: 10},
	})
	if e != api.OK {
		t.Fatal(e)
	}
	checkAll(t, c, []int{36583, 36584, 39999, 40000, 40001, 50000}, []int{0, 1, 27})
	if f, e := age.Youngest(c, 6); f.ID != 3 || e != api.OK {
		t.Error(f, e)
	}
	if _, e := age.Youngest(c, 7); e != api.ErrEmpty {
		t.Error(e)
	}
	if l, e := age.Old(c, 0, 40000); !slices.Equal(l, []int{5, 6}) || e != api.OK {
		t.Error(l, e)
	}
}

// refused checks that all functions that ask for a lot refuse it with an error, and return nothing else.
func refused(t *testing.T, want api.Errno, c api.Cellar, id, day, years int) {
	t.Helper()
	if f, e := age.Youngest(c, id); !sameFill(f, api.Fill{}) || e != want {
		t.Error(c, id, f, e)
	}
	if n, e := age.Years(c, id, day); n != 0 || e != want {
		t.Error(c, id, day, n, e)
	}
	if n, rest, e := age.Mean(c, id, day); n != 0 || rest != 0 || e != want {
		t.Error(c, id, day, n, rest, e)
	}
	if n, e := age.Ripe(c, id, years); n != 0 || e != want {
		t.Error(c, id, years, n, e)
	}
}

// names returns n names that increase.
func names(n int) []string {
	var l []string
	for i := range n {
		l = append(l, "a"+string(rune('A'+i)))
	}
	return l
}

// badFills are fills that do not have their form.
func badFills() []api.Fill {
	var all []api.Fill
	bad := func(change func(f *api.Fill)) {
		f := fillOf(2, 400)
		change(&f)
		all = append(all, f)
	}
	for _, n := range noIDs {
		bad(func(f *api.Fill) { f.ID = n })
	}
	for _, n := range []int{0, -1, 9, math.MinInt, math.MaxInt} {
		bad(func(f *api.Fill) { f.Class = n })
	}
	for _, n := range noDays {
		bad(func(f *api.Fill) { f.Day = n })
	}
	for _, s := range []string{"", " ", " a", "a ", "a\x1f", "\x7f", "a\nb", "é", "\xff", strings.Repeat("x", api.MaxName+1)} {
		bad(func(f *api.Fill) { f.Origin = s })
		bad(func(f *api.Fill) { f.Allergens = []string{s} })
	}
	for _, l := range [][]string{{"a", "a"}, {"b", "a"}, {"a", "c", "b"}, names(api.MaxAllergens + 1), slices.Repeat([]string{"a"}, 1000)} {
		bad(func(f *api.Fill) { f.Allergens = l })
	}
	return all
}

// unsound are cellars that are not sound.
func unsound() []api.Cellar {
	var all []api.Cellar
	bad := func(change func(c *api.Cellar)) {
		c := example()
		change(&c)
		all = append(all, c)
	}
	for _, f := range badFills() {
		bad(func(c *api.Cellar) { c.Fills[1] = f })
		// A fault of a fill of which there is nothing counts, too.
		bad(func(c *api.Cellar) { f.ID += 1; c.Fills[2] = f })
	}
	bad(func(c *api.Cellar) { c.Fills[0], c.Fills[1] = c.Fills[1], c.Fills[0] })
	bad(func(c *api.Cellar) { c.Fills = append(c.Fills, c.Fills[2]) })
	bad(func(c *api.Cellar) { c.Fills[2].ID = 2 })
	bad(func(c *api.Cellar) { c.Fills = append(c.Fills, fillOf(1, 0)) })
	bad(func(c *api.Cellar) { c.Fills = append(c.Fills, many(4, api.MaxShares-2)...) })
	// Shares whose fills are not there.
	bad(func(c *api.Cellar) { c.Fills = c.Fills[1:] })
	bad(func(c *api.Cellar) { c.Fills = c.Fills[:1] })
	bad(func(c *api.Cellar) { c.Fills = nil })
	bad(func(c *api.Cellar) { c.Lots[2] = lotOf(7, 4, 5) })
	bad(func(c *api.Cellar) { c.Lots[0] = lotOf(5, 1, 10, 2, 30, 4, 1) })
	for _, x := range []api.Lot{lotOf(0, 1, 5), lotOf(6, 1, 5), lotOf(5, 1, 5), lotOf(api.MaxID+1, 1, 5), {ID: 7, Liquid: api.Liquid{Alcohol: 5}, Shares: []api.Share{{Fill: 1, Alcohol: 5}}}, {ID: 7}, lotOf(7, 1, 0), lotOf(7, 2, 5, 1, 5), lotOf(7, 1, 5, 1, 5), lotOf(7, 1, api.MaxAlcohol, 2, 1)} {
		bad(func(c *api.Cellar) { c.Lots[2] = x })
	}
	bad(func(c *api.Cellar) { c.Lots[2].Liquid.Alcohol++ })
	bad(func(c *api.Cellar) { c.Lots[1].Liquid.Alcohol++ })
	bad(func(c *api.Cellar) { c.Lots[1].Liquid.Mass = 0 })
	bad(func(c *api.Cellar) {
		for id := range api.MaxLots {
			c.Lots = append(c.Lots, lotOf(8+id))
		}
	})
	return all
}

// withoutShares returns a cellar without the lots that have shares.
func withoutShares(c api.Cellar) api.Cellar {
	c.Lots = slices.DeleteFunc(slices.Clone(c.Lots), func(x api.Lot) bool { return len(x.Shares) > 0 })
	return c
}

// many returns n right fills with IDs from a first one on.
func many(first, n int) []api.Fill {
	var l []api.Fill
	for i := range n {
		l = append(l, fillOf(first+i, 10*i))
	}
	return l
}

// P25.1 to P25.3: a cellar that is not sound comes before everything else that is wrong.
func TestUnsound(t *testing.T) {
	all := unsound()
	// Fills have to be right even if there is nothing of them.
	for _, f := range badFills() {
		all = append(all, api.Cellar{Fills: []api.Fill{f}}, withoutShares(api.Cellar{Fills: []api.Fill{fillOf(1, 0), f}, Lots: example().Lots}))
	}
	all = append(all, api.Cellar{Fills: many(1, api.MaxShares+1)}, api.Cellar{Fills: []api.Fill{fillOf(2, 0), fillOf(1, 0)}}, api.Cellar{Fills: []api.Fill{fillOf(2, 0), fillOf(2, 0)}})
	for _, c := range all {
		before := ownCellar(c)
		for _, id := range []int{5, 6, 7, 8, 0} {
			for _, n := range []int{1000, 0, -1, math.MaxInt} {
				refused(t, api.ErrArg, c, id, n, n)
				if l, e := age.Old(c, 1, n); len(l) != 0 || e != api.ErrArg {
					t.Error(c, n, l, e)
				}
				if l, e := age.Old(c, n, 1000); len(l) != 0 || e != api.ErrArg {
					t.Error(c, n, l, e)
				}
			}
		}
		if !reflect.DeepEqual(c, before) {
			t.Error("changed", c, before)
		}
	}
}

// P25.1 to P25.3: cellars that are sound at the limits, also with things removed that are no lots.
func TestSoundAtLimits(t *testing.T) {
	name := strings.Repeat("~", api.MaxName)
	first := api.Fill{ID: 1, Class: 8, Origin: name}
	last := api.Fill{ID: api.MaxID, Class: 1, Day: api.MaxDay, Origin: "x", Allergens: names(api.MaxAllergens)}
	c := api.Cellar{Fills: []api.Fill{first, last}, Lots: []api.Lot{lotOf(1, 1, 1), lotOf(api.MaxID, 1, 1, api.MaxID, api.MaxAlcohol-1)}}
	c.Removed = []api.Lot{{ID: -1}, {ID: -1, Shares: []api.Share{{Fill: 99}}}}
	c.Last = -7
	checkAll(t, c, []int{0, 1, api.MaxDay - 1, api.MaxDay}, []int{0, 1, 273, 274, 300})
	// As many fills, lots and shares as there may be.
	c = api.Cellar{Fills: many(1, api.MaxShares)}
	for i := range api.MaxLots {
		var l []int
		for k := range api.MaxFills {
			l = append(l, 1+i+k, 1+k)
		}
		c.Lots = append(c.Lots, lotOf(1+i, l...))
	}
	checkAll(t, c, []int{0, 310, 320, 630, 640, 1000}, []int{0, 1, 2})
	// Nothing at all.
	if l, e := age.Old(api.Cellar{}, 0, 0); len(l) != 0 || e != api.OK {
		t.Error(l, e)
	}
	refused(t, api.ErrNotFound, api.Cellar{}, 5, 0, 0)
}

// P25.1 to P25.3: the order of all errors behind that of a cellar that is not sound.
func TestErrors(t *testing.T) {
	c := example()
	for _, id := range append(noIDs, 1, 4, 8, api.MaxID) {
		refused(t, api.ErrNotFound, c, id, 1000, 1)
		refused(t, api.ErrNotFound, c, id, -1, -1)
	}
	refused(t, api.ErrEmpty, c, 6, 1000, 1)
	refused(t, api.ErrEmpty, c, 6, -1, -1)
	refused(t, api.ErrEmpty, c, 6, math.MaxInt, math.MaxInt)
	for _, day := range noDays {
		if n, e := age.Years(c, 5, day); n != 0 || e != api.ErrRange {
			t.Error(day, n, e)
		}
		if n, rest, e := age.Mean(c, 5, day); n != 0 || rest != 0 || e != api.ErrRange {
			t.Error(day, n, rest, e)
		}
		if l, e := age.Old(c, 0, day); len(l) != 0 || e != api.ErrRange {
			t.Error(day, l, e)
		}
	}
	for _, day := range []int{0, 1, 398, 399} {
		if n, e := age.Years(c, 5, day); n != 0 || e != api.ErrOrder {
			t.Error(day, n, e)
		}
		if n, rest, e := age.Mean(c, 5, day); n != 0 || rest != 0 || e != api.ErrOrder {
			t.Error(day, n, rest, e)
		}
	}
	for _, years := range noYears {
		if day, e := age.Ripe(c, 5, years); day != 0 || e != api.ErrRange {
			t.Error(years, day, e)
		}
		if l, e := age.Old(c, years, 1000); len(l) != 0 || e != api.ErrRange {
			t.Error(years, l, e)
		}
	}
	for years := 273; years <= api.MaxYears; years++ {
		if day, e := age.Ripe(c, 5, years); day != 0 || e != api.ErrLimit {
			t.Error(years, day, e)
		}
	}
}

// Rules: the youngest fill shares no memory with the cellar.
func TestMemory(t *testing.T) {
	c := example()
	f, _ := age.Youngest(c, 5)
	f.Allergens[0] = "changed"
	_ = append(f.Allergens, "changed")
	if !reflect.DeepEqual(c, example()) {
		t.Error(c)
	}
	f, _ = age.Youngest(c, 5)
	c.Fills[1].Allergens[0] = "changed"
	if !sameFill(f, fillOf(2, 400)) {
		t.Error(f)
	}
	// A fill without allergens has none.
	c.Fills[1].Allergens = nil
	if f, e := age.Youngest(c, 5); f.ID != 2 || len(f.Allergens) != 0 || e != api.OK {
		t.Error(f, e)
	}
}

// P1: no function panics, whatever its arguments are.
func TestNoPanic(t *testing.T) {
	for _, a := range extremes {
		for _, b := range extremes {
			wrong := []api.Lot{{ID: a, Liquid: api.Liquid{Alcohol: b, Mass: a}, Shares: []api.Share{{Fill: a, Alcohol: b}, {Fill: b, Alcohol: a}}}, {ID: b, Liquid: api.Liquid{Mass: a}}}
			fills := []api.Fill{{ID: a, Class: 1, Day: b, Origin: "x"}, {ID: b, Class: a}}
			for _, c := range []api.Cellar{{}, example(), {Fills: fills, Lots: wrong}, {Fills: fills[:1], Lots: wrong[:1]}, {Fills: fills[:1], Lots: []api.Lot{lotOf(a, a, b)}}, {Fills: fills, Removed: wrong, Last: a}} {
				for _, id := range []int{a, b, 5, 6} {
					age.Youngest(c, id)
					age.Years(c, id, a)
					age.Years(c, id, b)
					age.Ripe(c, id, a)
					age.Mean(c, id, a)
					age.Mean(c, id, b)
				}
				age.Old(c, a, b)
			}
		}
	}
}
