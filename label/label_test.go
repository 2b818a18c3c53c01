package label_test

import (
	"math"
	"math/rand"
	"reflect"
	"regexp"
	"slices"
	"strconv"
	"strings"
	"testing"

	"spile/age"
	"spile/alcohol"
	"spile/api"
	"spile/family"
	"spile/label"
)

// extremes are numbers at and beyond all limits.
var extremes = []int{math.MinInt, math.MinInt + 1, -1, 0, 1, 2, 3, 7, 300, 301, 5000, 5001, 10000, 10001, api.MaxDay, api.MaxDay + 1, api.MaxID, api.MaxID + 1, api.MaxAlcohol, api.MaxMass, 1 << 62, math.MaxInt}

// noIDs are numbers that are no IDs.
var noIDs = []int{0, -1, api.MaxID + 1, math.MinInt, math.MaxInt}

// noDays are numbers that are no days.
var noDays = []int{-1, api.MaxDay + 1, math.MinInt, math.MaxInt}

// noParts are numbers that may not be asked for as least parts.
var noParts = []int{0, 1, -1, 5000, 10001, -5001, -10000, math.MinInt, math.MaxInt}

// table is the density table of the examples of the document.
func table() []api.Grade {
	return []api.Grade{{Strength: 0, Density: 99820}, {Strength: 5000, Density: 93016}, {Strength: 10000, Density: 78924}}
}

// plain is a density table by which alcohol is as heavy as water, so that the strength of a liquid is its alcohol times the density by its mass, rounded down.
func plain() []api.Grade {
	return []api.Grade{{Strength: 0, Density: 100000}, {Strength: 10000, Density: 100000}}
}

// fillOf returns a right fill.
func fillOf(id, day int, origin string, allergens ...string) api.Fill {
	return api.Fill{ID: id, Class: 1, Day: day, Origin: origin, Allergens: allergens}
}

// lotOf returns the lot with an ID, a mass, and the fills and the alcohol that follow one another.
func lotOf(id, mass int, l ...int) api.Lot {
	x := api.Lot{ID: id, Liquid: api.Liquid{Mass: mass}}
	for i := 0; i < len(l); i += 2 {
		x.Shares = append(x.Shares, api.Share{Fill: l[i], Alcohol: l[i+1]})
		x.Liquid.Alcohol += l[i+1]
	}
	return x
}

// example is the cellar of the example of the document, with a lot of water, one of three fills, and one that is too strong for all tables.
func example() api.Cellar {
	return api.Cellar{
		Fills: []api.Fill{fillOf(1, 0, "Islay", "barley"), fillOf(2, 400, "Jura"), fillOf(3, 500, "Islay", "barley", "rye"), fillOf(4, 900, "Arran", "apple", "milk")},
		Lots:  []api.Lot{lotOf(5, 10000, 1, 70, 2, 30), lotOf(6, 100), lotOf(7, 12000, 1, 20, 2, 40, 3, 60), lotOf(8, 100, 1, 100)},
	}
}

// ownCellar returns a cellar of its own.
func ownCellar(c api.Cellar) api.Cellar {
	d := api.Cellar{Fills: slices.Clone(c.Fills), Lots: slices.Clone(c.Lots), Removed: slices.Clone(c.Removed), Last: c.Last}
	for i, f := range d.Fills {
		d.Fills[i].Allergens = slices.Clone(f.Allergens)
	}
	for i, x := range d.Lots {
		d.Lots[i].Shares = slices.Clone(x.Shares)
	}
	return d
}

// ownLabel returns a label of its own.
func ownLabel(l api.Label) api.Label {
	l.Allergens = slices.Clone(l.Allergens)
	return l
}

// same reports whether two labels are the same; those without allergens may have an empty list.
func same(l, m api.Label) bool {
	return l.Years == m.Years && l.Origin == m.Origin && l.Strength == m.Strength && slices.Equal(l.Allergens, m.Allergens)
}

// lotIn returns the lot with an ID that is there.
func lotIn(c api.Cellar, id int) api.Lot {
	return c.Lots[slices.IndexFunc(c.Lots, func(x api.Lot) bool { return x.ID == id })]
}

// fillIn returns the fill with an ID that is there.
func fillIn(c api.Cellar, id int) api.Fill {
	return c.Fills[slices.IndexFunc(c.Fills, func(f api.Fill) bool { return f.ID == id })]
}

// originsOf returns the origins of a lot that is there in order, and the alcohol of each, by the definition.
func originsOf(c api.Cellar, id int) ([]string, []int) {
	var origins []string
	for _, s := range lotIn(c, id).Shares {
		origins = append(origins, fillIn(c, s.Fill).Origin)
	}
	slices.Sort(origins)
	origins = slices.Compact(origins)
	amounts := make([]int, len(origins))
	for i, o := range origins {
		for _, s := range lotIn(c, id).Shares {
			if fillIn(c, s.Fill).Origin == o {
				amounts[i] += s.Alcohol
			}
		}
	}
	return origins, amounts
}

// allergensOf returns the allergens of a lot that is there, by the definition.
func allergensOf(c api.Cellar, id int) []string {
	var all []string
	for _, s := range lotIn(c, id).Shares {
		all = append(all, fillIn(c, s.Fill).Allergens...)
	}
	slices.Sort(all)
	return slices.Compact(all)
}

// checkContents compares Origins and Allergens of all lots of a sound cellar with the definition.
func checkContents(t *testing.T, c api.Cellar) {
	t.Helper()
	before := ownCellar(c)
	for _, x := range c.Lots {
		origins, amounts := originsOf(c, x.ID)
		got, sums, e := label.Origins(c, x.ID)
		if !slices.Equal(got, origins) || !slices.Equal(sums, amounts) || e != api.OK {
			t.Error(c, x.ID, got, sums, e, origins, amounts)
		}
		all := x.Liquid.Alcohol
		for _, n := range sums {
			all -= n
		}
		if all != 0 {
			t.Error(c, x.ID, sums)
		}
		if got, e := label.Allergens(c, x.ID); !slices.Equal(got, allergensOf(c, x.ID)) || e != api.OK {
			t.Error(c, x.ID, got, e)
		}
	}
	if !reflect.DeepEqual(c, before) {
		t.Error("changed", c, before)
	}
}

// fullOf returns the full label of a lot that has shares and is right for the table, on a day that is not too early, by the definition.
func fullOf(t []api.Grade, c api.Cellar, id, day, least int) api.Label {
	l := api.Label{Allergens: allergensOf(c, id)}
	l.Years, _ = age.Years(c, id, day)
	l.Strength, _ = alcohol.Strength(t, lotIn(c, id).Liquid)
	origins, amounts := originsOf(c, id)
	for i, n := range amounts {
		if n*10000 >= lotIn(c, id).Liquid.Alcohol*least {
			l.Origin += origins[i]
		}
	}
	return l
}

// checkMake compares Make with the definition, and checks that the full label is true, and what else is true.
func checkMake(t *testing.T, g []api.Grade, c api.Cellar, id, day, least int) api.Label {
	t.Helper()
	want := fullOf(g, c, id, day, least)
	l, e := label.Make(g, c, id, day, least)
	if !same(l, want) || e != api.OK {
		t.Error(c, id, day, least, l, e, want)
	}
	checkAround(t, g, c, id, day, least, l)
	return l
}

// checkAround checks which labels near the full one are true, on its day and later.
func checkAround(t *testing.T, g []api.Grade, c api.Cellar, id, day, least int, full api.Label) {
	t.Helper()
	check := func(want api.Errno, change func(l *api.Label)) {
		t.Helper()
		l := ownLabel(full)
		change(&l)
		before := ownLabel(l)
		if e := label.Check(g, c, id, day, least, l); e != want {
			t.Error(c, id, day, least, full, l, e, want)
		}
		if later := min(day+400, api.MaxDay); want == api.OK && label.Check(g, c, id, later, least, l) != api.OK {
			t.Error(c, id, day, least, l)
		}
		if !same(l, before) {
			t.Error("changed", l, before)
		}
	}
	check(api.OK, func(l *api.Label) {})
	check(api.OK, func(l *api.Label) { l.Years = 0 })
	check(api.OK, func(l *api.Label) { l.Years /= 2 })
	check(api.OK, func(l *api.Label) { l.Origin = "" })
	check(api.OK, func(l *api.Label) { l.Years, l.Origin = 0, "" })
	check(api.ErrOverdue, func(l *api.Label) { l.Years++ })
	check(api.ErrOverdue, func(l *api.Label) { l.Years = api.MaxYears })
	for _, o := range []string{"Elsewhere", "I", "Islay malt", "islay"} {
		check(api.ErrDenied, func(l *api.Label) { l.Origin = o })
	}
	origins, _ := originsOf(c, id)
	for _, o := range origins {
		if o != full.Origin {
			check(api.ErrDenied, func(l *api.Label) { l.Origin = o })
		}
	}
	for _, d := range []int{-31, -30, -1, 1, 30, 31} {
		want := api.OK
		if d < -30 || d > 30 {
			want = api.ErrProof
		}
		if n := full.Strength + d; n < 0 || n > api.MaxStrength {
			want = api.ErrSyntax
		}
		check(want, func(l *api.Label) { l.Strength += d })
	}
	for i := range full.Allergens {
		check(api.ErrShort, func(l *api.Label) { l.Allergens = slices.Delete(l.Allergens, i, i+1) })
		check(api.ErrShort, func(l *api.Label) { l.Allergens[i] += "~" })
	}
	for _, s := range []string{"!", "bb", "~~~"} {
		check(api.OK, func(l *api.Label) {
			i, _ := slices.BinarySearch(l.Allergens, s)
			l.Allergens = slices.Insert(l.Allergens, i, s)
		})
	}
	// More than a label may have.
	check(api.ErrSyntax, func(l *api.Label) { l.Allergens = many(api.MaxList + 1) })
}

// many returns n names that increase.
func many(n int) []string {
	var l []string
	for i := range n {
		l = append(l, "z"+strconv.Itoa(10000+i))
	}
	return l
}

// P26.1 and P26.2: the example of the document.
func TestExample(t *testing.T) {
	c := example()
	if l, m, e := label.Origins(c, 5); !slices.Equal(l, []string{"Islay", "Jura"}) || !slices.Equal(m, []int{70, 30}) || e != api.OK {
		t.Error(l, m, e)
	}
	if l, m, e := label.Origins(c, 7); !slices.Equal(l, []string{"Islay", "Jura"}) || !slices.Equal(m, []int{80, 40}) || e != api.OK {
		t.Error(l, m, e)
	}
	if l, e := label.Allergens(c, 5); !slices.Equal(l, []string{"barley"}) || e != api.OK {
		t.Error(l, e)
	}
	if l, e := label.Allergens(c, 7); !slices.Equal(l, []string{"barley", "rye"}) || e != api.OK {
		t.Error(l, e)
	}
	checkContents(t, c)
	for _, x := range []struct {
		day, least int
		want       api.Label
	}{
		{1000, 7000, api.Label{Years: 1, Origin: "Islay", Strength: 1000, Allergens: []string{"barley"}}},
		{1000, 7001, api.Label{Years: 1, Strength: 1000, Allergens: []string{"barley"}}},
		{1000, 5001, api.Label{Years: 1, Origin: "Islay", Strength: 1000, Allergens: []string{"barley"}}},
		{1000, 10000, api.Label{Years: 1, Strength: 1000, Allergens: []string{"barley"}}},
		{400, 6999, api.Label{Origin: "Islay", Strength: 1000, Allergens: []string{"barley"}}},
		{1130, 7000, api.Label{Years: 2, Origin: "Islay", Strength: 1000, Allergens: []string{"barley"}}},
	} {
		if l := checkMake(t, plain(), c, 5, x.day, x.least); !same(l, x.want) {
			t.Error(x, l)
		}
	}
	// Lots with the strength of an example of the layer of the strengths.
	c.Lots = []api.Lot{lotOf(5, 94377000, 1, 2800000, 2, 1200000)}
	if l := checkMake(t, table(), c, 5, 765, 7000); !same(l, api.Label{Years: 1, Origin: "Islay", Strength: 4000, Allergens: []string{"barley"}}) {
		t.Error(l)
	}
	c.Lots[0].Liquid.Mass = 100000000
	if l := checkMake(t, table(), c, 5, 764, 7001); !same(l, api.Label{Strength: 3786, Allergens: []string{"barley"}}) {
		t.Error(l)
	}
}

// P26.1: lots without shares have no origins and no allergens.
func TestNothing(t *testing.T) {
	for _, c := range []api.Cellar{example(), {Lots: []api.Lot{lotOf(6, 100)}}, {Fills: example().Fills, Lots: []api.Lot{lotOf(6, api.MaxMass)}}} {
		if l, m, e := label.Origins(c, 6); len(l) != 0 || len(m) != 0 || e != api.OK {
			t.Error(l, m, e)
		}
		if l, e := label.Allergens(c, 6); len(l) != 0 || e != api.OK {
			t.Error(l, e)
		}
	}
}

// P26.1 and P26.2: origins and allergens are in bytewise order, whatever that of the fills is.
func TestBytewise(t *testing.T) {
	c := api.Cellar{
		Fills: []api.Fill{fillOf(1, 0, "b", "c", "d"), fillOf(2, 0, "a b", "B", "c"), fillOf(3, 0, "a", "a"), fillOf(4, 0, "~", "!"), fillOf(5, 0, "B", "a b"), fillOf(6, 0, "aa", "aa"), fillOf(7, 0, "a b", "c"), fillOf(8, 0, "nowhere", "none")},
		Lots:  []api.Lot{lotOf(1, 1000, 1, 1, 2, 2, 3, 3, 4, 4, 5, 5, 6, 6, 7, 7)},
	}
	if l, m, e := label.Origins(c, 1); !slices.Equal(l, []string{"B", "a", "a b", "aa", "b", "~"}) || !slices.Equal(m, []int{5, 3, 9, 6, 1, 4}) || e != api.OK {
		t.Error(l, m, e)
	}
	if l, e := label.Allergens(c, 1); !slices.Equal(l, []string{"!", "B", "a", "a b", "aa", "c", "d"}) || e != api.OK {
		t.Error(l, e)
	}
	checkContents(t, c)
}

// P26.2: origins that may just be named, and just not, by small amounts and by the greatest ones.
func TestLeastPart(t *testing.T) {
	c := example()
	check := func(islay, jura, least int, want string) {
		t.Helper()
		x := lotOf(5, api.MaxMass, 1, islay, 2, jura)
		x.Shares = slices.DeleteFunc(x.Shares, func(s api.Share) bool { return s.Alcohol == 0 })
		c.Lots = []api.Lot{x}
		l := checkMake(t, plain(), c, 5, 1000, least)
		if l.Origin != want {
			t.Error(islay, jura, least, l)
		}
	}
	for _, least := range []int{5001, 5002, 6667, 7500, 9999, 10000} {
		check(least, 10000-least, least, "Islay")
		check(10000-least+1, least-1, least, "")
		check(least-1, 10000-least+1, least, "")
		if least < 10000 {
			check(10000-least, least, least, "Jura")
		}
	}
	check(1, 1, 5001, "")
	check(2, 1, 6666, "Islay")
	check(2, 1, 6667, "")
	check(1, 2, 6666, "Jura")
	check(9999, 1, 10000, "")
	check(9999, 1, 9999, "Islay")
	most := api.MaxAlcohol / 10000
	check(most*5001, most*4999, 5001, "Islay")
	check(most*5001-1, most*4999+1, 5001, "")
	check(most*4999, most*5001, 5001, "Jura")
	check(api.MaxAlcohol-1, 1, 10000, "")
	check(api.MaxAlcohol-1, 1, 9999, "Islay")
	// All comes from one place, in several fills.
	c.Lots = []api.Lot{lotOf(5, api.MaxMass, 1, 5, 3, 7)}
	for least := 5001; least <= 10000; least += 833 {
		if l := checkMake(t, plain(), c, 5, 1000, least); l.Origin != "Islay" {
			t.Error(least, l)
		}
	}
}

// random returns a sound cellar of some fills, and of lots that are right for a plain table.
func random(r *rand.Rand) api.Cellar {
	var c api.Cellar
	kinds, id := 1+r.Intn(3), 0
	for range 1 + r.Intn(12) {
		id += 1 + r.Intn(3)
		allergens := map[string]bool{}
		for range r.Intn(4) {
			allergens[[]string{"a", "b", "c d", "C", "~"}[r.Intn(5)]] = true
		}
		f := fillOf(id, 1000+r.Intn(2000), []string{"Islay", "Jura", "A b"}[r.Intn(kinds)])
		for s := range allergens {
			f.Allergens = append(f.Allergens, s)
		}
		slices.Sort(f.Allergens)
		c.Fills = append(c.Fills, f)
	}
	most := []int{3, 1000, api.MaxAlcohol / api.MaxFills}[r.Intn(3)]
	id = 0
	for range 1 + r.Intn(4) {
		id += 1 + r.Intn(3)
		var l []int
		for _, k := range slices.Sorted(slices.Values(r.Perm(len(c.Fills))[:r.Intn(len(c.Fills)+1)])) {
			l = append(l, c.Fills[k].ID, 1+r.Intn(most))
		}
		x := lotOf(id, 100, l...)
		x.Liquid.Mass = min(x.Liquid.Alcohol*10+r.Intn(20*x.Liquid.Alcohol+1000)+1, api.MaxMass)
		if len(l) > 0 && r.Intn(9) == 0 {
			x.Liquid.Mass = max(x.Liquid.Alcohol*10, 1)
		}
		c.Lots = append(c.Lots, x)
	}
	return c
}

// P26.1, P26.2 and P26.4: random cellars against the definition, and labels near the full ones.
func TestRandom(t *testing.T) {
	r := rand.New(rand.NewSource(26))
	for range 150 {
		c := random(r)
		checkContents(t, c)
		for _, x := range c.Lots {
			if len(x.Shares) == 0 {
				continue
			}
			y, _ := age.Youngest(c, x.ID)
			for _, g := range [][]api.Grade{plain(), table()} {
				if alcohol.Check(g, x.Liquid) == api.OK {
					checkMake(t, g, c, x.ID, y.Day+r.Intn(5000), 5001+r.Intn(5000))
				}
			}
		}
	}
}

// P26.2: the strengths at both ends, where labels that differ by 30 may not be there any more.
func TestStrengthEnds(t *testing.T) {
	for _, x := range []struct{ alcohol, mass, want int }{{1, api.MaxMass, 0}, {1, 10, 10000}, {9971, 100000, 9971}, {9970, 100000, 9970}, {29, 100000, 29}, {30, 100000, 30}, {31, 100000, 31}, {api.MaxAlcohol, 10 * api.MaxAlcohol, 10000}} {
		c := api.Cellar{Fills: []api.Fill{fillOf(1, 0, "Islay")}, Lots: []api.Lot{lotOf(1, x.mass, 1, x.alcohol)}}
		if l := checkMake(t, plain(), c, 1, 0, 10000); l.Strength != x.want {
			t.Error(x, l)
		}
	}
}

// P26.2: the oldest lot that there may be, and all allergens that a lot can have.
func TestGreatest(t *testing.T) {
	var c api.Cellar
	var shares []int
	for i := range api.MaxFills {
		f := fillOf(i+1, 0, strings.Repeat("o", api.MaxName))
		for k := range api.MaxAllergens {
			f.Allergens = append(f.Allergens, strings.Repeat("x", 60)+strconv.Itoa(1000+16*i+k))
		}
		c.Fills = append(c.Fills, f)
		shares = append(shares, i+1, 1)
	}
	c.Lots = []api.Lot{lotOf(1, 1000, shares...)}
	l, e := label.Make(plain(), c, 1, api.MaxDay, 10000)
	if l.Years != 273 || len(l.Allergens) != 512 || len(l.Origin) != api.MaxName || e != api.OK {
		t.Error(l, e)
	}
	if !same(l, fullOf(plain(), c, 1, api.MaxDay, 10000)) || label.Check(plain(), c, 1, api.MaxDay, 10000, l) != api.OK {
		t.Error(l)
	}
	text, e := label.Print(l)
	if m, line, f := label.Parse(text); !same(l, m) || line != -1 || e != api.OK || f != api.OK {
		t.Error(m, line, e, f)
	}
	// As many allergens as a label may have besides.
	l.Allergens = append(l.Allergens, many(512)...)
	if e := label.Check(plain(), c, 1, api.MaxDay, 10000, l); e != api.OK {
		t.Error(e)
	}
	l.Allergens = append(l.Allergens, "zz")
	if e := label.Check(plain(), c, 1, api.MaxDay, 10000, l); e != api.ErrSyntax {
		t.Error(e)
	}
}

// P26.2: labels of a cellar behind steps.
func TestBehindSteps(t *testing.T) {
	c, _, e := family.Fold([]api.Step{
		{ID: 1, Kind: api.StepFill, To: 5, Alcohol: 7000000, Mass: 90000000, Fill: fillOf(9, 36584, "Islay", "barley")},
		{ID: 2, Kind: api.StepFill, To: 5, Alcohol: 3000000, Mass: 60000000, Fill: fillOf(3, 40000, "Jura")},
		{ID: 3, Kind: api.StepMove, From: 5, To: 6, Mass: 50000000},
		{ID: 4, Kind: api.StepWater, To: 6, Mass: 50000000},
	})
	if e != api.OK {
		t.Fatal(e)
	}
	checkContents(t, c)
	for _, id := range []int{5, 6} {
		for _, least := range []int{5001, 6999, 7000, 7001, 10000} {
			checkMake(t, table(), c, id, 40000, least)
			checkMake(t, table(), c, id, 45000, least)
		}
	}
}

// refused checks that Make and Check refuse with an error.
func refused(t *testing.T, want api.Errno, g []api.Grade, c api.Cellar, id, day, least int) {
	t.Helper()
	if l, e := label.Make(g, c, id, day, least); !same(l, api.Label{}) || e != want {
		t.Error(g, c, id, day, least, l, e, want)
	}
	for _, l := range []api.Label{{}, {Years: 1, Strength: 4000}, {Years: -1, Strength: -1}, {Origin: " "}, {Allergens: []string{"b", "a"}}} {
		if e := label.Check(g, c, id, day, least, l); e != want {
			t.Error(g, c, id, day, least, l, e, want)
		}
	}
}

// unsound are cellars that are not sound; all of them have lots with the IDs 5 and 6.
func unsound() []api.Cellar {
	var all []api.Cellar
	bad := func(change func(c *api.Cellar)) {
		c := example()
		change(&c)
		all = append(all, c)
	}
	for _, f := range []api.Fill{{}, fillOf(0, 400, "Jura"), fillOf(1, 400, "Jura"), fillOf(3, 400, "Jura"), fillOf(2, -1, "Jura"), fillOf(2, api.MaxDay+1, "Jura"), fillOf(2, 400, ""), fillOf(2, 400, " Jura"), fillOf(2, 400, "Jura", ""), fillOf(2, 400, "Jura", "b", "a"), {ID: 2, Day: 400, Origin: "Jura"}, {ID: 2, Class: 9, Day: 400, Origin: "Jura"}} {
		bad(func(c *api.Cellar) { c.Fills[1] = f })
	}
	bad(func(c *api.Cellar) { c.Fills = c.Fills[1:] })
	bad(func(c *api.Cellar) { c.Fills = nil })
	bad(func(c *api.Cellar) { c.Fills[3].Allergens = many(17) })
	bad(func(c *api.Cellar) {
		for id := range api.MaxShares {
			c.Fills = append(c.Fills, fillOf(5+id, 0, "x"))
		}
	})
	bad(func(c *api.Cellar) { c.Lots[2].Liquid.Alcohol++ })
	bad(func(c *api.Cellar) { c.Lots[2].ID = 6 })
	bad(func(c *api.Cellar) { c.Lots[2].Liquid.Mass = 0 })
	bad(func(c *api.Cellar) { c.Lots[2].Shares[1].Fill = 1 })
	bad(func(c *api.Cellar) { c.Lots[2] = lotOf(7, 1000, 5, 1) })
	return all
}

// noTables are density tables that are not right.
func noTables() [][]api.Grade {
	return [][]api.Grade{nil, {}, table()[:1], table()[:2], table()[1:], {{Strength: 0, Density: 100000}, {Strength: 10000, Density: 100001}}, {{Strength: 0, Density: 100000}, {Strength: 10000, Density: 49999}}, make([]api.Grade, 200)}
}

// P26.1 and P26.2: a table that is not right, and a cellar that is not sound, come before all else that is wrong, and then that there is no such lot.
func TestUnsound(t *testing.T) {
	for _, c := range unsound() {
		for _, id := range []int{5, 6, 8, 9, 0} {
			if l, m, e := label.Origins(c, id); len(l) != 0 || len(m) != 0 || e != api.ErrArg {
				t.Error(c, id, l, m, e)
			}
			if l, e := label.Allergens(c, id); len(l) != 0 || e != api.ErrArg {
				t.Error(c, id, l, e)
			}
			refused(t, api.ErrArg, plain(), c, id, 1000, 7000)
			refused(t, api.ErrArg, plain(), c, id, -1, 0)
		}
	}
	for _, g := range noTables() {
		for _, id := range []int{5, 6, 8, 9, 0} {
			refused(t, api.ErrArg, g, example(), id, 1000, 7000)
			refused(t, api.ErrArg, g, example(), id, -1, 0)
		}
		refused(t, api.ErrArg, g, unsound()[0], 5, 1000, 7000)
	}
	for _, id := range append(noIDs, 1, 4, 9, api.MaxID) {
		if l, m, e := label.Origins(example(), id); len(l) != 0 || len(m) != 0 || e != api.ErrNotFound {
			t.Error(id, l, m, e)
		}
		if l, e := label.Allergens(example(), id); len(l) != 0 || e != api.ErrNotFound {
			t.Error(id, l, e)
		}
		refused(t, api.ErrNotFound, plain(), example(), id, 1000, 7000)
		refused(t, api.ErrNotFound, plain(), example(), id, -1, 0)
		refused(t, api.ErrNotFound, plain(), api.Cellar{}, id, 1000, 7000)
	}
}

// P26.2: the order of the other errors: no shares, numbers out of range, a day that is too early, a liquid that is too strong.
func TestMakeRefuses(t *testing.T) {
	c := example()
	for _, day := range append(noDays, 0, 399, 1000) {
		for _, least := range append(noParts, 7000) {
			refused(t, api.ErrEmpty, plain(), c, 6, day, least)
		}
	}
	for _, id := range []int{5, 7, 8} {
		for _, day := range noDays {
			refused(t, api.ErrRange, plain(), c, id, day, 7000)
		}
		for _, least := range noParts {
			for _, day := range []int{-1, 0, 399, 1000, api.MaxDay} {
				refused(t, api.ErrRange, plain(), c, id, day, least)
			}
		}
	}
	c.Lots[3] = lotOf(8, 100, 2, 100)
	for _, id := range []int{5, 8} {
		for _, day := range []int{0, 1, 399} {
			for _, least := range []int{5001, 7000, 10000} {
				refused(t, api.ErrOrder, plain(), c, id, day, least)
			}
		}
	}
	// At the density of 100000 a mass has a tenth of it as alcohol at most.
	for _, x := range []struct {
		alcohol, mass int
		e             api.Errno
	}{{100, 1000, api.OK}, {101, 1000, api.ErrMismatch}, {100, 999, api.ErrMismatch}, {100, 1, api.ErrMismatch}, {api.MaxAlcohol, 10 * api.MaxAlcohol, api.OK}, {api.MaxAlcohol, 10*api.MaxAlcohol - 1, api.ErrMismatch}, {api.MaxAlcohol, 1, api.ErrMismatch}} {
		c.Lots[3] = lotOf(8, x.mass, 2, x.alcohol)
		for _, day := range []int{400, 1000} {
			if x.e == api.OK {
				checkMake(t, plain(), c, 8, day, 7000)
			} else {
				refused(t, x.e, plain(), c, 8, day, 7000)
			}
		}
	}
}

// P26.2: labels that do not have their form, which comes before all that may be untrue; and the order of what may be untrue.
func TestCheckOrder(t *testing.T) {
	c := example()
	full := checkMake(t, plain(), c, 7, 1000, 6666)
	if !same(full, api.Label{Years: 1, Origin: "Islay", Strength: 1000, Allergens: []string{"barley", "rye"}}) {
		t.Error(full)
	}
	check := func(want api.Errno, l api.Label) {
		t.Helper()
		if e := label.Check(plain(), c, 7, 1000, 6666, l); e != want {
			t.Error(l, e, want)
		}
	}
	for _, l := range badLabels() {
		check(api.ErrSyntax, l)
	}
	wrong := api.Label{Years: 2, Origin: "Jura", Strength: 0}
	check(api.ErrOverdue, wrong)
	wrong.Years = 1
	check(api.ErrDenied, wrong)
	wrong.Origin = "Islay"
	check(api.ErrProof, wrong)
	wrong.Strength = full.Strength
	check(api.ErrShort, wrong)
	wrong.Allergens = []string{"rye"}
	check(api.ErrShort, wrong)
	wrong.Allergens = []string{"barley"}
	check(api.ErrShort, wrong)
	wrong.Allergens = []string{"a", "barley", "milk", "rye", "z"}
	check(api.OK, wrong)
	// No origin may be named, so none is true.
	if e := label.Check(plain(), c, 7, 1000, 6667, wrong); e != api.ErrDenied {
		t.Error(e)
	}
	wrong.Origin = ""
	if e := label.Check(plain(), c, 7, 1000, 6667, wrong); e != api.OK {
		t.Error(e)
	}
	// A label without allergens is true of a lot without any.
	c.Lots[2] = lotOf(7, 1000, 2, 1)
	check(api.OK, api.Label{Strength: 100})
	check(api.OK, api.Label{Strength: 130, Origin: "Jura", Allergens: []string{}})
	check(api.ErrProof, api.Label{Strength: 131, Origin: "Jura"})
	check(api.ErrProof, api.Label{Strength: 69})
}

// badNames are strings that are no names, and not empty.
func badNames() []string {
	all := []string{" ", "  ", " a", "a ", " a b", "a b ", strings.Repeat("x", api.MaxName+1), strings.Repeat("x", 5000), "é", "\u2028"}
	for b := range 256 {
		if b < ' ' || b > '~' {
			s := string([]byte{byte(b)})
			all = append(all, s, "a"+s, s+"a", "a"+s+"a")
		}
	}
	return all
}

// badLabels are labels that do not have their form.
func badLabels() []api.Label {
	all := []api.Label{{Years: -1}, {Years: api.MaxYears + 1}, {Years: math.MinInt}, {Years: math.MaxInt}, {Strength: -1}, {Strength: api.MaxStrength + 1}, {Strength: math.MinInt}, {Strength: math.MaxInt}}
	for _, s := range badNames() {
		all = append(all, api.Label{Origin: s}, api.Label{Allergens: []string{s}}, api.Label{Allergens: []string{"!", s}}, api.Label{Allergens: []string{"!", s, "~"}})
	}
	for _, l := range [][]string{{""}, {"", "a"}, {"a", ""}, {"a", "a"}, {"b", "a"}, {"a", "c", "b"}, {"a", "b", "b"}, {"aa", "a"}, {"a", "B"}, many(api.MaxList + 1), make([]string, api.MaxList), make([]string, 100000)} {
		all = append(all, api.Label{Allergens: l})
	}
	return all
}

// goodLabels are labels that have their form, and whose text is not too large.
func goodLabels() []api.Label {
	var all []api.Label
	for _, n := range []int{0, 1, 2, 9, 10, 99, 100, 299, 300} {
		all = append(all, api.Label{Years: n}, api.Label{Years: n, Origin: "x", Strength: 33 * n, Allergens: many(n)})
	}
	for _, n := range []int{0, 1, 9, 10, 4000, 9999, 10000} {
		all = append(all, api.Label{Strength: n}, api.Label{Years: 7, Strength: n, Allergens: []string{"a", "b c"}})
	}
	for _, s := range []string{"a b", "a  b", "age 5", "strength 4000", "allergen", "origin x", "~", strings.Repeat("~", api.MaxName), "a" + strings.Repeat(" ", api.MaxName-2) + "b"} {
		all = append(all, api.Label{Origin: s}, api.Label{Allergens: []string{s}}, api.Label{Years: 1, Origin: s, Strength: 1, Allergens: []string{"!", s}})
	}
	for b := ' '; b <= '~'; b++ {
		all = append(all, api.Label{Origin: "a" + string(b) + "a", Allergens: []string{"a" + string(b) + "a", "~"}})
	}
	return append(all, api.Label{Allergens: []string{"B", "a", "a b", "aa"}}, api.Label{Years: api.MaxYears, Origin: "x", Strength: api.MaxStrength, Allergens: many(api.MaxList)})
}

// P26.3 and P26.4: the texts of labels, which are parsed to them.
func TestPrint(t *testing.T) {
	full := api.Label{Years: 12, Origin: "Islay malt", Strength: 4000, Allergens: []string{"barley", "milk"}}
	if text, e := label.Print(full); text != "age 12\norigin Islay malt\nstrength 4000\nallergen barley\nallergen milk\n" || e != api.OK {
		t.Error(text, e)
	}
	if text, e := label.Print(api.Label{}); text != "strength 0\n" || e != api.OK {
		t.Error(text, e)
	}
	for _, l := range goodLabels() {
		before := ownLabel(l)
		var want []string
		if l.Years > 0 {
			want = append(want, "age "+strconv.Itoa(l.Years)+"\n")
		}
		if l.Origin != "" {
			want = append(want, "origin "+l.Origin+"\n")
		}
		want = append(want, "strength "+strconv.Itoa(l.Strength)+"\n")
		for _, s := range l.Allergens {
			want = append(want, "allergen "+s+"\n")
		}
		text, e := label.Print(l)
		if text != strings.Join(want, "") || e != api.OK || !same(l, before) {
			t.Error(l, text, e)
		}
		if m, line, e := label.Parse(text); !same(l, m) || line != -1 || e != api.OK {
			t.Error(text, m, line, e)
		}
	}
	for _, l := range badLabels() {
		if text, e := label.Print(l); text != "" || e != api.ErrArg {
			t.Error(l, text, e)
		}
	}
}

// P26.3: a label that has its form is printed even if its text is larger than one that is read.
func TestLargestText(t *testing.T) {
	l := api.Label{Years: 300, Origin: strings.Repeat("o", api.MaxName), Strength: 10000}
	for i := range api.MaxList {
		l.Allergens = append(l.Allergens, strings.Repeat("x", 60)+strconv.Itoa(1000+i))
	}
	text, e := label.Print(l)
	if want := len("age 300\norigin \nstrength 10000\n") + api.MaxName + api.MaxList*(len("allergen \n")+api.MaxName); len(text) != want || e != api.OK {
		t.Error(len(text), want, e)
	}
	notRead(t, text, -1, api.ErrTooLarge)
}

// notRead checks that a text has no label.
func notRead(t *testing.T, text string, line int, want api.Errno) {
	t.Helper()
	if l, n, e := label.Parse(text); !same(l, api.Label{}) || n != line || e != want {
		t.Errorf("%.99q %v %v %v, want %v %v", text, l, n, e, line, want)
	}
}

// P26.3: lines that have no form, in all places.
func TestParseFindsSyntax(t *testing.T) {
	for _, line := range []string{
		"\n", " \n", "x\n", "age\n", "age \n", "age 0\n", "age 00\n", "age 01\n", "age -1\n", "age +1\n", "age -0\n", "age 1 \n", "age  1\n", "age 1 2\n", "age 100000\n", "age 000001\n", "age x\n", "age 1x\n", "age 0x1\n", "age 1_0\n", "age 1.0\n", "age \uff11\n",
		"Age 1\n", "ages 1\n", "age\t1\n", " age 1\n", "age 1\r\n", "1\n", "age 1age 2\n", "age 99999999999999999999\n", "age 18446744073709551617\n",
		"origin\n", "origin \n", "origin  x\n", "origin x \n", "origin x\t\n", "origin x\r\n", "origin é\n", "origin\tx\n", "Origin x\n", " origin x\n", "origins x\n", "origin " + strings.Repeat("x", api.MaxName+1) + "\n",
		"strength\n", "strength \n", "strength 00\n", "strength 04000\n", "strength -1\n", "strength +1\n", "strength -0\n", "strength 100000\n", "strength 000000\n", "strength 1 \n", "strength  1\n", "strength 1 2\n", "strength x\n", "Strength 1\n", "strengths 1\n", " strength 1\n", "strength\t1\n", "strength 1\r\n",
		"allergen\n", "allergens x\n", "Allergen x\n", " allergen x\n", "allergen\tx\n", "allerge x\n", "\x00\n", "\r\n", "=\n",
	} {
		notRead(t, line, 0, api.ErrSyntax)
		notRead(t, line+"strength 4000\n", 0, api.ErrSyntax)
		notRead(t, "age 5\n"+line, 1, api.ErrSyntax)
		notRead(t, "age 5\norigin x\n"+line+"strength 4000\nallergen x\n", 2, api.ErrSyntax)
		notRead(t, "age 5\norigin x\nstrength 4000\n"+line, 3, api.ErrSyntax)
		notRead(t, "strength 4000\n"+line+"allergen x\n", 1, api.ErrSyntax)
		notRead(t, "strength 4000\nallergen x\n"+line, 2, api.ErrSyntax)
		// What is wrong with the label comes later.
		notRead(t, "age 99999\norigin x\nstrength 99999\nallergen \nallergen \n"+line+"\n", 5, api.ErrSyntax)
	}
	// The last line has no end.
	for i, line := range []string{"age 5", "origin x", "strength 4000", "allergen x", "allergen "} {
		before := []string{"age 5\n", "origin x\n", "strength 4000\n", "allergen a\n"}[:min(i, 3)]
		notRead(t, strings.Join(before, "")+line, len(before), api.ErrSyntax)
	}
	notRead(t, "strength 4000\n"+strings.Repeat("allergen \n", 5000)+"x\n", 5001, api.ErrSyntax)
}

// P26.3: all sequences of up to five lines of all kinds: those that are in order, and the first line of all others that is not.
func TestParseFindsOrder(t *testing.T) {
	lines := []string{"age 7\n", "origin x\n", "strength 40\n", "allergen a\n", "allergen b\n"}
	form := regexp.MustCompile(`^a?o?(s[xy]*)?$`)
	var all func(text, kinds string, n int)
	all = func(text, kinds string, n int) {
		first := 0
		for first < len(kinds) && form.MatchString(kinds[:first+1]) {
			first++
		}
		l, line, e := label.Parse(text)
		switch {
		case first < len(kinds) || !strings.Contains(kinds, "s"):
			if !same(l, api.Label{}) || line != first || e != api.ErrSyntax {
				t.Errorf("%q %v %v %v", text, l, line, e)
			}
		case strings.Contains(kinds, "yx") || strings.Contains(kinds, "xx") || strings.Contains(kinds, "yy"):
			if !same(l, api.Label{}) || line != -1 || e != api.ErrArg {
				t.Errorf("%q %v %v %v", text, l, line, e)
			}
		default:
			if again, f := label.Print(l); again != text || line != -1 || e != api.OK || f != api.OK {
				t.Errorf("%q %v %v %v", text, l, line, e)
			}
		}
		if n == 0 {
			return
		}
		for i, line := range lines {
			all(text+line, kinds+"aosxy"[i:i+1], n-1)
		}
	}
	all("", "", 5)
}

// P26.3: texts that are too large, and labels that do not have their form, with the line -1.
func TestParseRefuses(t *testing.T) {
	row := "allergen \n"
	longest := "strength 4000\n" + strings.Repeat(row, (api.MaxData-14)/len(row))
	longest = longest[:len(longest)-1] + strings.Repeat("x", api.MaxData-len(longest)) + "\n"
	notRead(t, longest, -1, api.ErrArg)
	notRead(t, longest+"\n", -1, api.ErrTooLarge)
	notRead(t, strings.Repeat("x", api.MaxData), 0, api.ErrSyntax)
	notRead(t, strings.Repeat("x", api.MaxData+1), -1, api.ErrTooLarge)
	notRead(t, strings.Repeat("\n", api.MaxData+1), -1, api.ErrTooLarge)
	notRead(t, "", 0, api.ErrSyntax)
	notRead(t, "age 5\n", 1, api.ErrSyntax)
	notRead(t, "origin x\n", 1, api.ErrSyntax)
	notRead(t, "age 5\norigin x\n", 2, api.ErrSyntax)
	for _, text := range []string{
		"age 301\nstrength 4000\n", "age 99999\nstrength 0\n", "strength 10001\n", "strength 99999\n", "age 5\norigin x\nstrength 10001\nallergen x\n",
		"strength 40\nallergen \n", "strength 40\nallergen  \n", "strength 40\nallergen  x\n", "strength 40\nallergen x \n", "strength 40\nallergen x\r\n", "strength 40\nallergen é\n", "strength 40\nallergen \x00\n",
		"strength 40\nallergen a\nallergen a\n", "strength 40\nallergen b\nallergen a\n", "strength 40\nallergen " + strings.Repeat("x", api.MaxName+1) + "\n", "strength 40\nallergen " + strings.Join(many(api.MaxList+1), "\nallergen ") + "\n",
	} {
		notRead(t, text, -1, api.ErrArg)
	}
}

// lineForm and nameForm are the forms of lines, and of names.
var (
	lineForm = regexp.MustCompile(`(?s)^(age [1-9][0-9]{0,4}|origin [!-~]|origin [!-~][ -~]{0,62}[!-~]|strength (0|[1-9][0-9]{0,4})|allergen .*)\n$`)
	nameForm = regexp.MustCompile(`^([!-~]|[!-~][ -~]{0,62}[!-~])$`)
)

// readSlowly returns the label of a text, by regular expressions.
func readSlowly(text string) (api.Label, int, api.Errno) {
	var l api.Label
	last, lines := -1, 0
	for _, line := range strings.SplitAfter(text, "\n") {
		if line == "" {
			break
		}
		kind := slices.Index([]string{"age", "origin", "strength", "allergen"}, strings.Split(line, " ")[0])
		inOrder := kind > last && (kind != 3 || last == 2) || kind == 3 && last == 3
		if !lineForm.MatchString(line) || !inOrder {
			return api.Label{}, lines, api.ErrSyntax
		}
		said := line[strings.Index(line, " ")+1 : len(line)-1]
		switch kind {
		case 0:
			l.Years, _ = strconv.Atoi(said)
		case 1:
			l.Origin = said
		case 2:
			l.Strength, _ = strconv.Atoi(said)
		default:
			l.Allergens = append(l.Allergens, said)
		}
		last = kind
		lines++
	}
	if last < 2 {
		return api.Label{}, lines, api.ErrSyntax
	}
	good := l.Years <= api.MaxYears && l.Strength <= api.MaxStrength && slices.IsSorted(l.Allergens) && len(slices.Compact(slices.Clone(l.Allergens))) == len(l.Allergens)
	for _, s := range l.Allergens {
		good = good && nameForm.MatchString(s)
	}
	if !good {
		return api.Label{}, -1, api.ErrArg
	}
	return l, -1, api.OK
}

// P26.3 and P26.4: every byte of a text changed, put in or left out, against regular expressions; what is accepted is printed as it was.
func TestNoOtherText(t *testing.T) {
	text := "age 12\norigin Isle of Jura\nstrength 4050\nallergen barley\nallergen milk\n"
	check := func(changed string) {
		t.Helper()
		want, n, f := readSlowly(changed)
		l, line, e := label.Parse(changed)
		if !same(l, want) || line != n || e != f {
			t.Errorf("%q %v %v %v, want %v %v %v", changed, l, line, e, want, n, f)
		}
		if again, f := label.Print(l); e == api.OK && (again != changed || f != api.OK) {
			t.Errorf("%q %q %v", changed, again, f)
		}
	}
	for i := range len(text) + 1 {
		for b := range 256 {
			check(text[:i] + string([]byte{byte(b)}) + text[i:])
			if i < len(text) {
				check(text[:i] + string([]byte{byte(b)}) + text[i+1:])
			}
		}
		if i < len(text) {
			check(text[:i] + text[i+1:])
		}
		check(text[:i])
		check(text[i:])
	}
}

// Rules: results share no memory with arguments, nor with other results.
func TestMemory(t *testing.T) {
	c := example()
	for i := range c.Fills {
		c.Fills[i].Allergens = append(c.Fills[i].Allergens, "zz")[:len(c.Fills[i].Allergens)]
	}
	for range 2 {
		origins, amounts, _ := label.Origins(c, 7)
		allergens, _ := label.Allergens(c, 7)
		l, _ := label.Make(plain(), c, 7, 1000, 6666)
		if !slices.Equal(origins, []string{"Islay", "Jura"}) || !slices.Equal(amounts, []int{80, 40}) || !slices.Equal(allergens, []string{"barley", "rye"}) || !slices.Equal(l.Allergens, allergens) {
			t.Error(origins, amounts, allergens, l)
		}
		clear(origins)
		clear(amounts)
		clear(allergens)
		if !slices.Equal(l.Allergens, []string{"barley", "rye"}) {
			t.Error(l)
		}
		clear(l.Allergens)
		for _, f := range c.Fills {
			if f.Allergens[:len(f.Allergens)+1][len(f.Allergens)] != "zz" {
				t.Error(f)
			}
		}
	}
}

// P1: no function panics, whatever its arguments are.
func TestNoPanic(t *testing.T) {
	for _, a := range extremes {
		for _, b := range extremes {
			wrong := []api.Lot{{ID: a, Liquid: api.Liquid{Alcohol: b, Mass: a}, Shares: []api.Share{{Fill: a, Alcohol: b}, {Fill: b, Alcohol: a}}}, {ID: b, Liquid: api.Liquid{Mass: a}}}
			fills := []api.Fill{{ID: a, Class: 1, Day: b, Origin: "x"}, {ID: b, Class: a}}
			l := api.Label{Years: a, Origin: "x\xff"[:1+a&1], Strength: b, Allergens: []string{"a", "b"}[:1+b&1]}
			for _, c := range []api.Cellar{{}, example(), {Fills: fills, Lots: wrong}, {Fills: fills[:1], Lots: wrong[:1]}, {Fills: fills[:1], Lots: []api.Lot{lotOf(a, a, a, b)}}} {
				for _, id := range []int{a, 5} {
					label.Origins(c, id)
					label.Allergens(c, id)
					for _, g := range [][]api.Grade{nil, plain(), {{Strength: a, Density: b}, {Strength: b, Density: a}}} {
						label.Make(g, c, id, a, b)
						label.Check(g, c, id, b, a, l)
						label.Check(g, c, id, b, 7000, l)
					}
				}
			}
			label.Print(l)
			label.Parse("age " + strconv.Itoa(a) + "\nstrength " + strconv.Itoa(b) + "\n")
		}
	}
}
