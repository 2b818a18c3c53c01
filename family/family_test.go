package family_test

import (
	"math"
	"math/big"
	"math/rand"
	"slices"
	"strings"
	"testing"

	"spile/api"
	"spile/family"
	"spile/lot"
)

// extremes are numbers at and beyond all limits.
var extremes = []int{math.MinInt, math.MinInt + 1, -1, 0, 1, 2, 3, 4, 5, 8, 9, api.MaxDay, api.MaxDay + 1, api.MaxID, api.MaxID + 1, api.MaxAlcohol, api.MaxAlcohol + 1, api.MaxMass, api.MaxMass + 1, 1 << 62, math.MaxInt}

// noIDs are numbers that are no IDs.
var noIDs = []int{0, -1, api.MaxID + 1, math.MinInt, math.MaxInt}

// fillOf returns a right fill with an ID.
func fillOf(id int) api.Fill {
	return api.Fill{ID: id, Class: 1 + id%8, Day: 36584, Origin: "Islay", Allergens: []string{"gluten", "milk"}}
}

// fill returns a step that brings a new fill.
func fill(id, to, fill, alcohol, mass int) api.Step {
	return api.Step{ID: id, Kind: api.StepFill, To: to, Alcohol: alcohol, Mass: mass, Fill: fillOf(fill)}
}

// water returns a step that brings water.
func water(id, to, mass int) api.Step {
	return api.Step{ID: id, Kind: api.StepWater, To: to, Mass: mass}
}

// move returns a step from one lot to another one.
func move(id, from, to, mass int) api.Step {
	return api.Step{ID: id, Kind: api.StepMove, From: from, To: to, Mass: mass}
}

// remove returns a step out of a lot.
func remove(id, from, mass int) api.Step {
	return api.Step{ID: id, Kind: api.StepRemove, From: from, Mass: mass}
}

// lotOf returns the lot with an ID, a mass, and the fills and the alcohol that follow one another.
func lotOf(id, mass int, l ...int) api.Lot {
	x := api.Lot{ID: id, Liquid: api.Liquid{Mass: mass}}
	for i := 0; i < len(l); i += 2 {
		x.Shares = append(x.Shares, api.Share{Fill: l[i], Alcohol: l[i+1]})
		x.Liquid.Alcohol += l[i+1]
	}
	return x
}

// sameFill reports whether two fills are the same; those without allergens may have an empty list.
func sameFill(f, g api.Fill) bool {
	return f.ID == g.ID && f.Class == g.Class && f.Day == g.Day && f.Origin == g.Origin && slices.Equal(f.Allergens, g.Allergens)
}

// sameStep reports whether two steps are the same.
func sameStep(s, u api.Step) bool {
	return sameFill(s.Fill, u.Fill) && s.ID == u.ID && s.Kind == u.Kind && s.From == u.From && s.To == u.To && s.Alcohol == u.Alcohol && s.Mass == u.Mass
}

// sameLots reports whether two lists of lots are the same.
func sameLots(l, m []api.Lot) bool {
	return slices.EqualFunc(l, m, func(x, y api.Lot) bool {
		return x.ID == y.ID && x.Liquid == y.Liquid && slices.Equal(x.Shares, y.Shares)
	})
}

// same reports whether two cellars are the same.
func same(c, d api.Cellar) bool {
	return slices.EqualFunc(c.Fills, d.Fills, sameFill) && sameLots(c.Lots, d.Lots) && sameLots(c.Removed, d.Removed) && c.Last == d.Last
}

// ownLots returns lots with shares of their own.
func ownLots(l []api.Lot) []api.Lot {
	all := slices.Clone(l)
	for i, x := range all {
		all[i].Shares = slices.Clone(x.Shares)
	}
	return all
}

// ownCellar returns a cellar of its own.
func ownCellar(c api.Cellar) api.Cellar {
	d := api.Cellar{Fills: slices.Clone(c.Fills), Lots: ownLots(c.Lots), Removed: ownLots(c.Removed), Last: c.Last}
	for i, f := range d.Fills {
		d.Fills[i].Allergens = slices.Clone(f.Allergens)
	}
	return d
}

// ownSteps returns steps of their own.
func ownSteps(l []api.Step) []api.Step {
	all := slices.Clone(l)
	for i, s := range all {
		all[i].Fill.Allergens = slices.Clone(s.Fill.Allergens)
	}
	return all
}

// example are the steps of the example of the document.
func example() []api.Step {
	return []api.Step{fill(1, 5, 1, 60, 100), move(2, 5, 6, 50), water(3, 6, 50), move(4, 6, 7, 40)}
}

// vessel is what the reference keeps of a lot.
type vessel struct {
	mass  int
	fills map[int]int
}

// model is a cellar of the reference, which follows the definition with maps and numbers of any size.
type model struct {
	fills   map[int]api.Fill
	lots    map[int]vessel
	removed []api.Lot
	last    int
}

// newModel returns the reference of a cellar at first.
func newModel() *model {
	return &model{fills: map[int]api.Fill{}, lots: map[int]vessel{}}
}

// total returns the alcohol of a vessel.
func total(v vessel) int {
	all := 0
	for _, n := range v.fills {
		all += n
	}
	return all
}

// ids returns the keys of a map in order.
func ids[T any](m map[int]T) []int {
	var all []int
	for id := range m {
		all = append(all, id)
	}
	slices.Sort(all)
	return all
}

// quotient returns a times b by c, rounded down, and the remainder.
func quotient(a, b, c int) (int, int) {
	q, r := new(big.Int), new(big.Int)
	q.QuoRem(new(big.Int).Mul(big.NewInt(int64(a)), big.NewInt(int64(b))), big.NewInt(int64(c)), r)
	return int(q.Int64()), int(r.Int64())
}

// split returns what a mass takes out of a vessel, and what stays.
func split(v vessel, mass int) (vessel, vessel) {
	drawn, stays := vessel{mass, map[int]int{}}, vessel{v.mass - mass, map[int]int{}}
	all := total(v)
	if all == 0 {
		return drawn, stays
	}
	alcohol, _ := quotient(all, mass, v.mass)
	left := alcohol
	rests := map[int]int{}
	for f, n := range v.fills {
		drawn.fills[f], rests[f] = quotient(alcohol, n, all)
		left -= drawn.fills[f]
	}
	order := ids(rests)
	slices.SortStableFunc(order, func(f, g int) int { return rests[g] - rests[f] })
	for _, f := range order[:left] {
		drawn.fills[f]++
	}
	for f, n := range v.fills {
		stays.fills[f] = n - drawn.fills[f]
		for _, part := range []vessel{drawn, stays} {
			if part.fills[f] == 0 {
				delete(part.fills, f)
			}
		}
	}
	return drawn, stays
}

// pour adds a vessel to a lot, and returns the error of this.
func (m *model) pour(v vessel, to int) api.Errno {
	there := m.lots[to]
	both := vessel{there.mass + v.mass, map[int]int{}}
	for _, part := range []vessel{there, v} {
		for f, n := range part.fills {
			both.fills[f] += n
		}
	}
	if len(both.fills) > api.MaxFills {
		return api.ErrFull
	}
	if both.mass > api.MaxMass || total(both) > api.MaxAlcohol {
		return api.ErrLimit
	}
	m.lots[to] = both
	return api.OK
}

// step carries out a step that has its form, and returns the error with which it is refused; the model is of no use then.
func (m *model) step(s api.Step) api.Errno {
	if s.ID <= m.last {
		return api.ErrOrder
	}
	if _, found := m.fills[s.Fill.ID]; s.Kind == api.StepFill && found {
		return api.ErrTwice
	}
	comes := vessel{s.Mass, map[int]int{}}
	if s.From > 0 {
		from, found := m.lots[s.From]
		if !found {
			return api.ErrNotFound
		}
		if from.mass < s.Mass {
			return api.ErrShort
		}
		comes, m.lots[s.From] = split(from, s.Mass)
		if m.lots[s.From].mass == 0 {
			delete(m.lots, s.From)
		}
	}
	if s.Kind == api.StepFill {
		comes.fills[s.Fill.ID] = s.Alcohol
		m.fills[s.Fill.ID] = s.Fill
	}
	if s.To > 0 {
		if e := m.pour(comes, s.To); e != api.OK {
			return e
		}
	} else {
		m.removed = append(m.removed, lotFrom(s.ID, comes))
	}
	if len(m.fills) > api.MaxShares || len(m.lots) > api.MaxLots {
		return api.ErrTooLarge
	}
	m.last = s.ID
	return api.OK
}

// lotFrom returns a vessel as a lot.
func lotFrom(id int, v vessel) api.Lot {
	var l []int
	for _, f := range ids(v.fills) {
		l = append(l, f, v.fills[f])
	}
	return lotOf(id, v.mass, l...)
}

// cellar returns the cellar of the reference.
func (m *model) cellar() api.Cellar {
	c := api.Cellar{Removed: ownLots(m.removed), Last: m.last}
	for _, id := range ids(m.fills) {
		c.Fills = append(c.Fills, m.fills[id])
	}
	for _, id := range ids(m.lots) {
		c.Lots = append(c.Lots, lotFrom(id, m.lots[id]))
	}
	return c
}

// reference returns what Fold has to return for not too many steps that have their form.
func reference(l []api.Step) (api.Cellar, int, api.Errno) {
	m := newModel()
	for i, s := range l {
		if e := m.step(s); e != api.OK {
			return api.Cellar{}, i, e
		}
	}
	return m.cellar(), -1, api.OK
}

// check folds steps that have their form, compares with the definition, and checks all that follows from it. It returns the cellar.
func check(t *testing.T, l []api.Step) (api.Cellar, int, api.Errno) {
	t.Helper()
	before := ownSteps(l)
	want, index, failed := reference(l)
	c, i, e := family.Fold(l)
	if !same(c, want) || i != index || e != failed {
		t.Fatal(l, c, i, e)
	}
	var d api.Cellar
	for k, s := range l {
		kept := ownCellar(d)
		next, e := family.Apply(d, s)
		if !same(d, kept) {
			t.Fatal("changed", l, k)
		}
		if k == index {
			if !same(next, api.Cellar{}) || e != failed {
				t.Fatal(l, k, next, e)
			}
			break
		}
		// What was removed before stays as it is.
		if e != api.OK || !sameLots(next.Removed[:len(d.Removed)], d.Removed) {
			t.Fatal(l, k, next, e)
		}
		d = next
	}
	if failed == api.OK {
		if !same(d, want) {
			t.Fatal(l, d)
		}
		checkTraces(t, l, want)
	} else {
		checkRefused(t, l)
	}
	if !slices.EqualFunc(l, before, sameStep) {
		t.Fatal("changed", before)
	}
	return c, i, e
}

// checkRefused checks that nothing can be said about steps of which one is refused.
func checkRefused(t *testing.T, l []api.Step) {
	t.Helper()
	for _, id := range []int{-1, 0, 1, 2, 5, api.MaxID} {
		if shares, e := family.Back(l, id); len(shares) != 0 || e != api.ErrArg {
			t.Fatal(l, id, shares, e)
		}
		if lots, removed, e := family.Forward(l, id); len(lots) != 0 || len(removed) != 0 || e != api.ErrArg {
			t.Fatal(l, id, lots, removed, e)
		}
		if ways, e := family.Ways(l, id); len(ways) != 0 || e != api.ErrArg {
			t.Fatal(l, id, ways, e)
		}
	}
	if came, there, e := family.Balance(l); came != (api.Liquid{}) || there != (api.Liquid{}) || e != api.ErrArg {
		t.Fatal(l, came, there, e)
	}
}

// sources returns, for each lot, the lots from which something has come to it, going forward.
func sources(l []api.Step) map[int]map[int]bool {
	all := map[int]map[int]bool{}
	for _, s := range l {
		if s.Kind != api.StepMove {
			continue
		}
		into := map[int]bool{s.From: true}
		for _, from := range []int{s.From, s.To} {
			for id := range all[from] {
				into[id] = true
			}
		}
		all[s.To] = into
	}
	return all
}

// checkTraces checks that fills are traced backward and forward, and that nothing is lost, for steps that lead to a cellar.
func checkTraces(t *testing.T, l []api.Step, c api.Cellar) {
	t.Helper()
	lots := map[int]api.Lot{}
	for _, x := range c.Lots {
		lots[x.ID] = x
	}
	known := append(ids(lots), 1, 2, 3, 4, 5, 6, 7, 8, 9, 0, -1, api.MaxID, api.MaxID+1, math.MinInt, math.MaxInt)
	from := sources(l)
	for _, id := range known {
		x, there := lots[id]
		want := api.OK
		var ways []int
		if !there {
			want = api.ErrNotFound
		} else {
			delete(from[id], id)
			ways = ids(from[id])
		}
		if shares, e := family.Back(l, id); !slices.Equal(shares, x.Shares) || e != want {
			t.Fatal(l, id, shares, e)
		}
		if all, e := family.Ways(l, id); !slices.Equal(all, ways) || e != want {
			t.Fatal(l, id, all, e)
		}
	}
	checkForward(t, l, c)
	var came, there api.Liquid
	for _, s := range l {
		if s.Kind == api.StepFill || s.Kind == api.StepWater {
			came.Alcohol += s.Alcohol
			came.Mass += s.Mass
		}
	}
	for _, x := range append(slices.Clone(c.Lots), c.Removed...) {
		there.Alcohol += x.Liquid.Alcohol
		there.Mass += x.Liquid.Mass
	}
	if first, second, e := family.Balance(l); came != there || first != came || second != there || e != api.OK {
		t.Fatal(l, first, second, e, came, there)
	}
}

// checkForward checks that each fill is found in lots and in what was removed, as a whole.
func checkForward(t *testing.T, l []api.Step, c api.Cellar) {
	t.Helper()
	alcohol := map[int]int{}
	for _, s := range l {
		if s.Kind == api.StepFill {
			alcohol[s.Fill.ID] = s.Alcohol
		}
	}
	for _, fill := range append(ids(alcohol), 0, -1, 99, api.MaxID+1, math.MinInt, math.MaxInt) {
		n, there := alcohol[fill]
		in, out, e := family.Forward(l, fill)
		if !there {
			if len(in) != 0 || len(out) != 0 || e != api.ErrNotFound {
				t.Fatal(l, fill, in, out, e)
			}
			continue
		}
		all := 0
		for i, list := range [][]api.Lot{c.Lots, c.Removed} {
			var want []api.Share
			for _, x := range list {
				if a, _ := lot.Of([]api.Lot{x}, fill); a > 0 {
					want = append(want, api.Share{Fill: x.ID, Alcohol: a})
					all += a
				}
			}
			if got := [][]api.Share{in, out}[i]; !slices.Equal(got, want) || e != api.OK {
				t.Fatal(l, fill, in, out, e)
			}
		}
		if all != n {
			t.Fatal(l, fill, in, out, n)
		}
	}
}

// P24.1 to P24.4: the example of the document.
func TestExample(t *testing.T) {
	c, _, _ := check(t, example())
	want := api.Cellar{Fills: []api.Fill{fillOf(1)}, Lots: []api.Lot{lotOf(5, 50, 1, 30), lotOf(6, 60, 1, 18), lotOf(7, 40, 1, 12)}, Last: 4}
	if !same(c, want) {
		t.Error(c)
	}
	if shares, e := family.Back(example(), 7); !slices.Equal(shares, []api.Share{{Fill: 1, Alcohol: 12}}) || e != api.OK {
		t.Error(shares, e)
	}
	in, out, e := family.Forward(example(), 1)
	if !slices.Equal(in, []api.Share{{Fill: 5, Alcohol: 30}, {Fill: 6, Alcohol: 18}, {Fill: 7, Alcohol: 12}}) || len(out) != 0 || e != api.OK {
		t.Error(in, out, e)
	}
	if ways, e := family.Ways(example(), 7); !slices.Equal(ways, []int{5, 6}) || e != api.OK {
		t.Error(ways, e)
	}
	if ways, e := family.Ways(example(), 5); len(ways) != 0 || e != api.OK {
		t.Error(ways, e)
	}
	if came, there, e := family.Balance(example()); came != (api.Liquid{Alcohol: 60, Mass: 150}) || there != came || e != api.OK {
		t.Error(came, there, e)
	}
	// What is removed has the IDs of the steps.
	l := append(example(), remove(9, 6, 20), remove(11, 7, 40), fill(12, 6, 2, 10, 10), remove(13, 6, 10))
	c, _, _ = check(t, l)
	want = api.Cellar{Fills: []api.Fill{fillOf(1), fillOf(2)}, Lots: []api.Lot{lotOf(5, 50, 1, 30), lotOf(6, 40, 1, 10, 2, 8)}, Removed: []api.Lot{lotOf(9, 20, 1, 6), lotOf(11, 40, 1, 12), lotOf(13, 10, 1, 2, 2, 2)}, Last: 13}
	if !same(c, want) {
		t.Error(c)
	}
	in, out, e = family.Forward(l, 1)
	if !slices.Equal(in, []api.Share{{Fill: 5, Alcohol: 30}, {Fill: 6, Alcohol: 10}}) || !slices.Equal(out, []api.Share{{Fill: 9, Alcohol: 6}, {Fill: 11, Alcohol: 12}, {Fill: 13, Alcohol: 2}}) || e != api.OK {
		t.Error(in, out, e)
	}
	// No steps lead to the cellar at first.
	if c, i, e := check(t, nil); !same(c, api.Cellar{}) || i != -1 || e != api.OK {
		t.Error(c, i, e)
	}
}

// badFills are fills that do not have their form.
func badFills() []api.Fill {
	var all []api.Fill
	bad := func(change func(f *api.Fill)) {
		f := fillOf(1)
		change(&f)
		all = append(all, f)
	}
	for _, n := range noIDs {
		bad(func(f *api.Fill) { f.ID = n })
	}
	for _, n := range []int{0, -1, 9, math.MinInt, math.MaxInt} {
		bad(func(f *api.Fill) { f.Class = n })
	}
	for _, n := range []int{-1, api.MaxDay + 1, math.MinInt, math.MaxInt} {
		bad(func(f *api.Fill) { f.Day = n })
	}
	for _, s := range badNames() {
		bad(func(f *api.Fill) { f.Origin = s })
		bad(func(f *api.Fill) { f.Allergens = []string{s} })
		bad(func(f *api.Fill) { f.Allergens = []string{s, "z"} })
		bad(func(f *api.Fill) { f.Allergens = []string{"!", s} })
	}
	for _, l := range [][]string{{"a", "a"}, {"b", "a"}, {"a", "c", "b"}, {"a", "b", "b"}, {"aa", "a"}, {"a", "B"}, allergens(17), make([]string, 1), make([]string, 16), slices.Repeat([]string{"a"}, 1000)} {
		bad(func(f *api.Fill) { f.Allergens = l })
	}
	return all
}

// allergens returns n allergens.
func allergens(n int) []string {
	var l []string
	for i := range n {
		l = append(l, "a"+string(rune('A'+i)))
	}
	return l
}

// badNames are strings that are no names.
func badNames() []string {
	all := []string{"", " ", "  ", " a", "a ", " a b", "a b ", strings.Repeat("x", api.MaxName+1), strings.Repeat("x", 5000), strings.Repeat(" ", api.MaxName), "é", "aé", "\u2028"}
	for b := range 256 {
		if b < ' ' || b > '~' {
			s := string([]byte{byte(b)})
			all = append(all, s, "a"+s, s+"a", "a"+s+"a", "a b"+s+" c")
		}
	}
	return all
}

// goodNames are names, with all characters, and of all lengths.
func goodNames() []string {
	all := []string{"a b", "a  b", strings.Repeat("~", api.MaxName), "a" + strings.Repeat(" ", api.MaxName-2) + "b"}
	for b := ' '; b <= '~'; b++ {
		all = append(all, "a"+string(b)+"a")
		if b > ' ' {
			all = append(all, string(b))
		}
	}
	for n := 1; n <= api.MaxName; n++ {
		all = append(all, strings.Repeat("x", n))
	}
	return all
}

// P24.1: fills that have their form, at both ends of all limits, and fills that do not.
func TestFormOfFill(t *testing.T) {
	accepted := func(f api.Fill) {
		t.Helper()
		s := fill(1, 5, 1, 60, 100)
		s.Fill = f
		want := api.Cellar{Fills: []api.Fill{f}, Lots: []api.Lot{lotOf(5, 100, f.ID, 60)}, Last: 1}
		if c, e := family.Apply(api.Cellar{}, s); !same(c, want) || e != api.OK {
			t.Error(f, c, e)
		}
	}
	for _, id := range []int{1, 2, api.MaxID - 1, api.MaxID} {
		accepted(fillOf(id))
	}
	for class := 1; class <= 8; class++ {
		accepted(api.Fill{ID: 1, Class: class, Origin: "x"})
	}
	for _, day := range []int{0, 1, api.MaxDay - 1, api.MaxDay} {
		accepted(api.Fill{ID: 1, Class: 1, Day: day, Origin: "x", Allergens: []string{}})
	}
	for _, s := range goodNames() {
		accepted(api.Fill{ID: 1, Class: 1, Origin: s})
		accepted(api.Fill{ID: 1, Class: 1, Origin: "x", Allergens: []string{s}})
	}
	for _, l := range [][]string{{"a", "aa"}, {"B", "a"}, {"!", "a", "a b", "~"}, allergens(1), allergens(15), allergens(16)} {
		accepted(api.Fill{ID: 1, Class: 1, Origin: "x", Allergens: l})
	}
	for _, f := range badFills() {
		s := fill(1, 5, 1, 60, 100)
		s.Fill = f
		if c, e := family.Apply(api.Cellar{}, s); !same(c, api.Cellar{}) || e != api.ErrArg {
			t.Error(f, c, e)
		}
		if c, i, e := family.Fold([]api.Step{fill(1, 5, 9, 60, 100), s, {}}); !same(c, api.Cellar{}) || i != 1 || e != api.ErrArg {
			t.Error(f, c, i, e)
		}
	}
}

// badSteps are steps that do not have their form.
func badSteps() []api.Step {
	right := []api.Step{fill(1, 5, 9, 60, 100), water(1, 5, 100), move(1, 5, 6, 50), remove(1, 5, 50)}
	all := []api.Step{{}, {ID: 1}, {ID: 1, From: 5, To: 6, Mass: 1}}
	for _, s := range right {
		bad := func(change func(s *api.Step)) {
			u := s
			change(&u)
			all = append(all, u)
		}
		for _, n := range noIDs {
			bad(func(s *api.Step) { s.ID = n })
			if s.From > 0 || n != 0 {
				bad(func(s *api.Step) { s.From = n })
			}
			if s.To > 0 || n != 0 {
				bad(func(s *api.Step) { s.To = n })
			}
		}
		if s.From == 0 {
			bad(func(s *api.Step) { s.From = 1 })
			bad(func(s *api.Step) { s.From = 5 })
		}
		if s.To == 0 {
			bad(func(s *api.Step) { s.To = 1 })
		}
		for _, n := range []int{0, -1, api.MaxMass + 1, math.MinInt, math.MaxInt} {
			bad(func(s *api.Step) { s.Mass = n })
		}
		for _, n := range []int{0, -1, 5, math.MinInt, math.MaxInt} {
			bad(func(s *api.Step) { s.Kind = n })
		}
		for _, n := range []int{0, 1, -1, api.MaxAlcohol + 1, math.MinInt, math.MaxInt} {
			if s.Kind == api.StepFill && n != 1 || s.Kind != api.StepFill && n != 0 {
				bad(func(s *api.Step) { s.Alcohol = n })
			}
		}
		if s.Kind == api.StepFill {
			bad(func(s *api.Step) { s.Fill = api.Fill{} })
			continue
		}
		for _, f := range []api.Fill{fillOf(1), {ID: 1}, {Class: 1}, {Day: 1}, {Day: -1}, {ID: -1}, {Class: -1}, {Origin: "x"}, {Origin: " "}, {Allergens: []string{""}}, {Allergens: []string{"a"}}} {
			bad(func(s *api.Step) { s.Fill = f })
		}
	}
	// The lot From is the lot To.
	return append(all, move(1, 5, 5, 50), move(1, api.MaxID, api.MaxID, 50))
}

// P24.1: steps of all kinds that have their form, at both ends of all limits, and steps that do not; this comes before anything else.
func TestFormOfStep(t *testing.T) {
	m, a := api.MaxMass, api.MaxAlcohol
	for _, id := range []int{1, 2, api.MaxID - 3, api.MaxID - 2} {
		check(t, []api.Step{fill(id, 1, 1, 1, 1), water(id+1, api.MaxID, 1), water(id+2, 2, m)})
		check(t, []api.Step{fill(id, api.MaxID, api.MaxID, a, m), move(id+1, api.MaxID, 1, m), remove(id+2, 1, m)})
		check(t, []api.Step{fill(id, api.MaxID, api.MaxID, a, 1), move(id+1, api.MaxID, 1, 1), move(id+2, 1, api.MaxID, 1)})
	}
	// A fill without any allergens may have an empty list.
	s := water(1, 5, 100)
	s.Fill.Allergens = []string{}
	check(t, []api.Step{s})
	cellars := []api.Cellar{{}, {Last: 100}}
	c, _, _ := family.Fold(example())
	for _, s := range badSteps() {
		before := ownSteps([]api.Step{s})[0]
		for _, c := range append(cellars, c) {
			if d, e := family.Apply(c, s); !same(d, api.Cellar{}) || e != api.ErrArg {
				t.Error(c, s, d, e)
			}
		}
		l := append(example(), s, api.Step{})
		if d, i, e := family.Fold(l); !same(d, api.Cellar{}) || i != 4 || e != api.ErrArg {
			t.Error(s, d, i, e)
		}
		checkRefused(t, l)
		if !sameStep(s, before) {
			t.Error("changed", before)
		}
	}
}

// refused checks that the last one of steps is refused with an error, and all others are not.
func refused(t *testing.T, want api.Errno, l ...api.Step) {
	t.Helper()
	if _, i, e := check(t, l); i != len(l)-1 || e != want {
		t.Error(l, i, e)
	}
}

// accepted checks that no step is refused.
func accepted(t *testing.T, l ...api.Step) {
	t.Helper()
	if _, i, e := check(t, l); i != -1 || e != api.OK {
		t.Error(l, i, e)
	}
}

// P24.1: steps that are refused: each error, and the order of the errors.
func TestRefused(t *testing.T) {
	first := fill(5, 5, 1, 60, 100)
	// The ID of the step comes before all but its form.
	for _, id := range []int{1, 4, 5} {
		refused(t, api.ErrOrder, first, water(id, 5, 1))
		refused(t, api.ErrOrder, first, fill(id, 5, 1, 60, 100))
		refused(t, api.ErrOrder, first, move(id, 6, 7, 1000))
		refused(t, api.ErrOrder, first, remove(id, 6, 1))
		refused(t, api.ErrOrder, first, water(id, 5, api.MaxMass))
	}
	accepted(t, first, water(6, 5, 1))
	accepted(t, first, water(api.MaxID, 5, 1))
	refused(t, api.ErrOrder, first, water(api.MaxID, 5, 1), water(api.MaxID, 5, 1))
	// A fill may be there once only, even if it is not in any lot any more.
	refused(t, api.ErrTwice, first, fill(6, 5, 1, 60, 100))
	refused(t, api.ErrTwice, first, fill(6, 6, 1, 1, 1))
	refused(t, api.ErrTwice, first, fill(6, 5, 1, api.MaxAlcohol, api.MaxMass))
	refused(t, api.ErrTwice, first, remove(6, 5, 100), fill(7, 5, 1, 60, 100))
	// No lot comes before too little of it, and this before what does not go into the lot To.
	refused(t, api.ErrNotFound, move(1, 5, 6, 1))
	refused(t, api.ErrNotFound, remove(1, 5, 1))
	refused(t, api.ErrNotFound, first, move(6, 6, 5, api.MaxMass))
	refused(t, api.ErrNotFound, first, move(6, 5, 6, 100), move(7, 5, 6, 1))
	refused(t, api.ErrNotFound, first, remove(6, 5, 100), remove(7, 5, 1))
	refused(t, api.ErrShort, first, move(6, 5, 6, 101))
	refused(t, api.ErrShort, first, remove(6, 5, 101))
	refused(t, api.ErrShort, first, remove(6, 5, 60), remove(7, 5, 41))
	refused(t, api.ErrShort, first, water(6, 6, api.MaxMass), move(7, 5, 6, 101))
	accepted(t, first, remove(6, 5, 60), remove(7, 5, 40))
	// Too much of it.
	a, m := api.MaxAlcohol, api.MaxMass
	refused(t, api.ErrLimit, first, water(6, 5, m-99))
	accepted(t, first, water(6, 5, m-100))
	refused(t, api.ErrLimit, first, fill(6, 5, 2, a-59, 1))
	accepted(t, first, fill(6, 5, 2, a-60, 1))
	refused(t, api.ErrLimit, first, fill(6, 5, 2, 1, m-99))
	refused(t, api.ErrLimit, first, water(6, 6, m), move(7, 5, 6, 1))
	refused(t, api.ErrLimit, first, fill(6, 6, 2, a, 1), move(7, 5, 6, 2))
	accepted(t, first, fill(6, 6, 2, a, 1), move(7, 5, 6, 1))
}

// fills returns steps that bring n fills, with IDs from one on, into a lot.
func fills(n, from, to int) []api.Step {
	var l []api.Step
	for i := range n {
		l = append(l, fill(from+i, to, from+i, 32, 10))
	}
	return l
}

// waters returns steps that bring water into n lots, with IDs from one on.
func waters(n, from int) []api.Step {
	var l []api.Step
	for i := range n {
		l = append(l, water(from+i, from+i, 10))
	}
	return l
}

// P24.1: as many fills in a lot, fills, lots and steps as there may be, and one more.
func TestLimits(t *testing.T) {
	full := fills(api.MaxFills, 1, 500)
	and := func(l []api.Step, more ...api.Step) []api.Step { return append(slices.Clone(l), more...) }
	accepted(t, full...)
	refused(t, api.ErrFull, and(full, fill(33, 500, 33, 1, 1))...)
	refused(t, api.ErrFull, and(full, fill(33, 500, 33, api.MaxAlcohol, api.MaxMass))...)
	refused(t, api.ErrTwice, and(full, fill(33, 500, 32, api.MaxAlcohol, api.MaxMass))...)
	accepted(t, and(full, water(33, 500, 1))...)
	refused(t, api.ErrLimit, and(full, water(33, 500, api.MaxMass-319))...)
	refused(t, api.ErrFull, and(full, fill(33, 501, 33, 1, 1), move(34, 501, 500, 1))...)
	refused(t, api.ErrFull, and(full, fill(33, 501, 33, 1, 1), move(34, 500, 501, 320))...)
	// All fills of the lot are drawn from, or only the first ones.
	refused(t, api.ErrFull, and(full, fill(33, 501, 33, 1, 1), move(34, 500, 501, 10))...)
	accepted(t, and(full, fill(33, 501, 33, 1, 1), move(34, 500, 501, 9), move(35, 500, 502, 10))...)

	many := waters(api.MaxLots, 1)
	accepted(t, many...)
	refused(t, api.ErrTooLarge, and(many, water(33, 33, 1))...)
	refused(t, api.ErrTooLarge, and(many, fill(33, 33, 33, 1, 1))...)
	refused(t, api.ErrTooLarge, and(many, move(33, 1, 33, 9))...)
	accepted(t, and(many, move(33, 1, 33, 10))...)
	accepted(t, and(many, move(33, 1, 2, 9), water(34, 3, 1), fill(35, 32, 1, 1, 1))...)
	accepted(t, and(many, remove(33, 7, 10), water(34, 77, 10))...)
	refused(t, api.ErrLimit, and(many, water(33, 1, api.MaxMass))...)

	longest := and(full, fills(api.MaxFills, 33, 501)...)
	accepted(t, longest...)
	for _, l := range [][]api.Step{and(longest, water(65, 1, 1)), make([]api.Step, 65), make([]api.Step, 1000), and(make([]api.Step, 64), longest...)} {
		if c, i, e := family.Fold(l); !same(c, api.Cellar{}) || i != -1 || e != api.ErrTooLarge {
			t.Error(len(l), c, i, e)
		}
		checkRefused(t, l)
	}
	checkMoreFills(t, longest)
}

// checkMoreFills checks that no fill comes after as many as there may be.
func checkMoreFills(t *testing.T, longest []api.Step) {
	t.Helper()
	c, _, _ := family.Fold(longest)
	for _, x := range []struct {
		s api.Step
		e api.Errno
	}{
		{fill(65, 502, 65, 1, 1), api.ErrTooLarge}, {fill(65, 501, 65, 1, 1), api.ErrFull}, {fill(65, 502, 64, 1, 1), api.ErrTwice}, {water(65, 502, 1), api.OK}, {move(65, 500, 502, 1), api.OK}, {remove(65, 500, 1), api.OK},
	} {
		if d, e := family.Apply(c, x.s); e != x.e || e != api.OK && !same(d, api.Cellar{}) {
			t.Error(x.s, d, e)
		}
	}
	// More steps than Fold takes may lead to a cellar.
	m := newModel()
	for _, s := range longest {
		m.step(s)
	}
	for i := range 200 {
		s := move(65+i, 500+i%2, 501-i%2, 320)
		if i%2 > 0 {
			s = remove(65+i, 500, 1)
		}
		if i%2 == 0 {
			s = move(65+i, 500, 502, 1)
		}
		want := m.step(s)
		d, e := family.Apply(c, s)
		if e != want {
			t.Fatal(i, d, e)
		}
		if e == api.OK && !same(d, m.cellar()) {
			t.Fatal(i, d)
		}
		if e != api.OK {
			return
		}
		c = d
	}
}

// P24.3: lots that are reached on several ways, in circles, too late, and before a lot was emptied.
func TestWays(t *testing.T) {
	start := []api.Step{water(1, 1, 100), water(2, 2, 100), water(3, 3, 100), water(4, 4, 100)}
	for _, x := range []struct {
		l    []api.Step
		lot  int
		ways []int
	}{
		{nil, 1, nil}, {[]api.Step{move(5, 1, 2, 1)}, 2, []int{1}}, {[]api.Step{move(5, 1, 2, 1)}, 1, nil},
		{[]api.Step{move(5, 1, 2, 1), move(6, 2, 3, 1)}, 3, []int{1, 2}}, {[]api.Step{move(5, 2, 3, 1), move(6, 1, 2, 1)}, 3, []int{2}},
		{[]api.Step{move(5, 1, 2, 1), move(6, 2, 1, 1)}, 1, []int{2}}, {[]api.Step{move(5, 1, 2, 1), move(6, 2, 1, 1)}, 2, []int{1}}, {[]api.Step{move(5, 3, 1, 1), move(6, 1, 2, 1), move(7, 2, 1, 1), move(8, 4, 2, 1)}, 1, []int{2, 3}},
		{[]api.Step{move(5, 4, 1, 1), move(6, 3, 1, 1), move(7, 2, 1, 1)}, 1, []int{2, 3, 4}}, {[]api.Step{move(5, 1, 2, 100), remove(6, 2, 200), water(7, 2, 5)}, 2, []int{1}}, {[]api.Step{move(5, 1, 9, 100), move(6, 9, 4, 100)}, 4, []int{1, 9}}, {[]api.Step{remove(5, 1, 50), water(6, 2, 1)}, 2, nil},
	} {
		l := append(slices.Clone(start), x.l...)
		check(t, l)
		if ways, e := family.Ways(l, x.lot); !slices.Equal(ways, x.ways) || e != api.OK {
			t.Error(x, ways, e)
		}
	}
}

// randomStep returns a step of some kind among few lots, with masses up to a number.
func randomStep(r *rand.Rand, id, lots, mass int) api.Step {
	from, to := 1+r.Intn(lots), 1+r.Intn(lots)
	n := 1 + r.Intn(mass)
	switch r.Intn(5) {
	case 0:
		return fill(id, to, id, 1+r.Intn(min(9*mass, api.MaxAlcohol/20)), n)
	case 1:
		return water(id, to, n)
	case 2:
		return remove(id, from, n)
	}
	if from == to {
		return water(id, to, n)
	}
	return move(id, from, to, n)
}

// P24.1 to P24.5: many steps among few and many lots, with small and great masses, against the definition; steps that are refused are left out, most of the time.
func TestRandom(t *testing.T) {
	r := rand.New(rand.NewSource(241))
	for round := range 100 {
		lots, mass := 2+r.Intn(6), []int{3, 20, 1000, api.MaxMass / 9}[round%4]
		if round%10 == 0 {
			lots = 60
		}
		m := newModel()
		var l []api.Step
		id := 0
		for range 70 {
			id += 1 + r.Intn(2)
			s := randomStep(r, id, lots, mass)
			if m.step(s) != api.OK {
				m = newModel()
				for _, u := range l {
					m.step(u)
				}
				if r.Intn(20) == 0 {
					check(t, append(slices.Clone(l), s))
				}
				continue
			}
			l = append(l, s)
			if len(l) == api.MaxSteps {
				break
			}
		}
		check(t, l)
		check(t, l[:r.Intn(len(l))])
	}
}

// P24.1 to P24.5: all sequences of three steps, out of few ones, behind a first one.
func TestSmall(t *testing.T) {
	kinds := []api.Step{fill(0, 1, 2, 5, 3), fill(0, 2, 3, 7, 2), water(0, 1, 2), water(0, 2, 1), move(0, 1, 2, 1), move(0, 1, 2, 4), move(0, 2, 1, 1), move(0, 2, 1, 2), move(0, 1, 3, 2), move(0, 3, 2, 1), remove(0, 1, 4), remove(0, 1, 1), remove(0, 2, 3), remove(0, 3, 2)}
	n := len(kinds)
	for i := range n * n * n {
		l := []api.Step{fill(1, 1, 1, 10, 4), kinds[i%n], kinds[i/n%n], kinds[i/n/n]}
		for k := range l {
			l[k].ID = k + 1
		}
		check(t, l)
	}
}

// spoilLots changes all memory of lots.
func spoilLots(l []api.Lot) {
	for i := range l[:cap(l)] {
		x := &l[:cap(l)][i]
		for k := range x.Shares[:cap(x.Shares)] {
			x.Shares[:cap(x.Shares)][k] = api.Share{Fill: -1, Alcohol: -1}
		}
		*x = api.Lot{ID: -1}
	}
}

// spoilFills changes all memory of fills.
func spoilFills(l []api.Fill) {
	for i := range l[:cap(l)] {
		f := &l[:cap(l)][i]
		for k := range f.Allergens[:cap(f.Allergens)] {
			f.Allergens[:cap(f.Allergens)][k] = "spoiled"
		}
		*f = api.Fill{ID: -1}
	}
}

// roomy returns a cellar of its own, with room behind all of its lists.
func roomy(c api.Cellar) api.Cellar {
	d := ownCellar(c)
	d.Fills = append(make([]api.Fill, 0, 80), d.Fills...)
	d.Lots = append(make([]api.Lot, 0, 80), d.Lots...)
	d.Removed = append(make([]api.Lot, 0, 80), d.Removed...)
	for i, f := range d.Fills {
		d.Fills[i].Allergens = append(make([]string, 0, 20), f.Allergens...)
	}
	for _, l := range [][]api.Lot{d.Lots, d.Removed} {
		for i, x := range l {
			l[i].Shares = append(make([]api.Share, 0, 40), x.Shares...)
		}
	}
	return d
}

// Rules: results share no memory with arguments, nor do their parts with one another.
func TestMemory(t *testing.T) {
	first, _, _ := family.Fold(append(example(), remove(5, 6, 10), fill(6, 5, 2, 7, 7), remove(7, 7, 40)))
	for _, s := range []api.Step{fill(8, 5, 3, 5, 5), fill(8, 9, 3, 5, 5), water(8, 5, 5), water(8, 9, 5), move(8, 5, 6, 5), move(8, 5, 9, 57), remove(8, 5, 5), remove(8, 6, 50)} {
		c := roomy(first)
		before := ownCellar(c)
		u := ownSteps([]api.Step{s})[0]
		d, e := family.Apply(c, u)
		if e != api.OK {
			t.Fatal(s, e)
		}
		want := ownCellar(d)
		// What becomes of the arguments does not matter to the result, and the other way round.
		for i := range u.Fill.Allergens {
			u.Fill.Allergens[i] = "changed"
		}
		again := roomy(first)
		spoilFills(again.Fills)
		spoilLots(c.Lots)
		spoilLots(c.Removed)
		spoilFills(c.Fills)
		if !same(d, want) {
			t.Error(s, d)
		}
		c = roomy(first)
		d, _ = family.Apply(c, s)
		spoilLots(d.Removed)
		if !sameLots(d.Lots, want.Lots) {
			t.Error(s, d)
		}
		spoilLots(d.Lots)
		spoilFills(d.Fills)
		if !same(c, before) || len(c.Lots) < cap(c.Lots) && c.Lots[:len(c.Lots)+1][len(c.Lots)].ID != 0 || c.Removed[:len(c.Removed)+1][len(c.Removed)].ID != 0 || c.Fills[:len(c.Fills)+1][len(c.Fills)].ID != 0 {
			t.Error(s, c)
		}
	}
	l := append(example(), remove(5, 6, 10))
	c, _, _ := family.Fold(l)
	want := ownCellar(c)
	l[0].Fill.Allergens[0] = "changed"
	if !same(c, want) {
		t.Error(c)
	}
	l = append(example(), remove(5, 6, 10))
	c, _, _ = family.Fold(l)
	spoilFills(c.Fills)
	if l[0].Fill.Allergens[0] != "gluten" {
		t.Error(l)
	}
}

// P1: no function panics, whatever its arguments are, not even for cellars that no steps lead to.
func TestNoPanic(t *testing.T) {
	for _, a := range extremes {
		for _, b := range extremes {
			for kind := -1; kind < 6; kind++ {
				s := api.Step{ID: 1 + a&7, Kind: kind, From: a, To: b, Alcohol: a, Mass: b, Fill: fillOf(1)}
				u := api.Step{ID: a, Kind: b, From: kind, To: 5, Mass: 1}
				for _, l := range [][]api.Step{{s}, {u}, {fill(1, 5, 1, 60, 100), s}, {s, u}} {
					family.Fold(l)
					family.Back(l, a)
					family.Forward(l, b)
					family.Ways(l, a)
					family.Balance(l)
				}
			}
			wrong := []api.Lot{{ID: a, Liquid: api.Liquid{Alcohol: b, Mass: a}, Shares: []api.Share{{Fill: a, Alcohol: b}, {Fill: b, Alcohol: a}}}, {ID: b, Liquid: api.Liquid{Mass: a}}}
			for _, c := range []api.Cellar{{Lots: wrong, Last: a}, {Removed: wrong, Last: b}, {Fills: []api.Fill{{ID: a}, {ID: b}, {ID: a}}, Last: -1}, {Lots: wrong[1:], Last: -1}, {Lots: wrong[:1], Last: -1}} {
				for _, s := range []api.Step{fill(7, 5, 1, 1, 1), fill(7, 1, 1, 1, 1), water(7, 1, 1), move(7, 1, 2, 1), move(7, 2, 1, 1), remove(7, 1, 1), remove(7, 2, api.MaxMass)} {
					family.Apply(c, s)
				}
			}
		}
	}
}
