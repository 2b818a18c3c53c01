package share_test

import (
	"math"
	"math/big"
	"math/rand"
	"slices"
	"testing"

	"spile/api"
	"spile/lot"
	"spile/share"
)

// extremes are numbers at and beyond all limits.
var extremes = []int{math.MinInt, math.MinInt + 1, -1, 0, 1, 2, 32, 33, api.MaxID, api.MaxID + 1, api.MaxAlcohol, api.MaxAlcohol + 1, api.MaxMass, api.MaxMass + 1, 1 << 62, math.MaxInt}

// noIDs are numbers that are no IDs.
var noIDs = []int{0, -1, api.MaxID + 1, math.MinInt, math.MaxInt}

// of returns shares with the fills and the alcohol that follow one another.
func of(l ...int) []api.Share {
	var all []api.Share
	for i := 0; i < len(l); i += 2 {
		all = append(all, api.Share{Fill: l[i], Alcohol: l[i+1]})
	}
	return all
}

// row returns n shares of fills from one on, with the same alcohol.
func row(n, from, alcohol int) []api.Share {
	var all []api.Share
	for i := range n {
		all = append(all, api.Share{Fill: from + i, Alcohol: alcohol})
	}
	return all
}

// sum returns the sum of the alcohol of shares.
func sum(l []api.Share) int {
	all := 0
	for _, s := range l {
		all += s.Alcohol
	}
	return all
}

// lotOf returns the lot with an ID, a mass, and shares.
func lotOf(id, mass int, l []api.Share) api.Lot {
	return api.Lot{ID: id, Liquid: api.Liquid{Alcohol: sum(l), Mass: mass}, Shares: l}
}

// same reports whether two lots are the same; those without shares may have an empty list.
func same(x, y api.Lot) bool {
	return x.ID == y.ID && x.Liquid == y.Liquid && slices.Equal(x.Shares, y.Shares)
}

// isZero reports whether a lot is the zero lot.
func isZero(x api.Lot) bool {
	return same(x, api.Lot{})
}

// rightShares are lists of shares that are right, up to all limits.
func rightShares() [][]api.Share {
	m := api.MaxAlcohol
	return [][]api.Share{
		nil, {}, of(1, 1), of(1, m), of(api.MaxID, 1), of(api.MaxID, m), of(2, 10, 5, 21), of(2, 7, 5, 14), of(1, 4, 5, 1), of(2, 10, 5, 20),
		of(1, m-1, 2, 1), of(1, 1, api.MaxID, m-1), of(1, m/3, 7, m/3, 9, m/3), of(3, 1, 4, 1, 5, 1), of(api.MaxID-1, 5, api.MaxID, 7), of(1, 1, 2, 2, 3, 3, 4, 4, 5, 5, 6, 6, 7, 7, 8, 8),
		row(api.MaxFills, 1, 1), row(api.MaxFills-1, 2, 3), row(api.MaxFills, api.MaxID-api.MaxFills+1, m/api.MaxFills), row(api.MaxFills-1, 40, m/api.MaxFills), row(16, 1, 5), row(16, 17, 5), row(17, 17, 5),
		append(row(api.MaxFills-1, 1, m/api.MaxFills), of(32, m-(api.MaxFills-1)*(m/api.MaxFills))...),
	}
}

// wrong is a list of shares with its first error.
type wrong struct {
	l []api.Share
	e api.Errno
}

// wrongShares are lists with each error, and with several ones.
func wrongShares() []wrong {
	m := api.MaxAlcohol
	all := []wrong{
		{row(api.MaxFills+1, 1, 1), api.ErrTooLarge}, {make([]api.Share, api.MaxFills+1), api.ErrTooLarge}, {row(api.MaxFills+1, 1, m), api.ErrTooLarge}, {make([]api.Share, 1000), api.ErrTooLarge},
		{make([]api.Share, api.MaxFills), api.ErrRange}, {make([]api.Share, 1), api.ErrRange},
		{of(2, 10, 2, 20), api.ErrOrder}, {of(5, 20, 2, 10), api.ErrOrder}, {of(1, 1, 3, 1, 2, 1), api.ErrOrder}, {of(api.MaxID, 1, api.MaxID, 1), api.ErrOrder}, {append(row(api.MaxFills-1, 1, 1), of(31, 1)...), api.ErrOrder},
		{of(1, m, 2, 1), api.ErrLimit}, {of(1, 1, 2, m), api.ErrLimit}, {of(1, m, 2, m), api.ErrLimit}, {row(api.MaxFills, 1, m/api.MaxFills+1), api.ErrLimit}, {row(api.MaxFills, 1, m), api.ErrLimit},
		// The first share with an error decides, and of its errors the first one.
		{of(2, 1, 1, 0), api.ErrRange}, {of(2, 1, 1, 1, 0, 0), api.ErrOrder}, {of(2, 0, 1, 1), api.ErrRange}, {of(2, 1, 2, m+1), api.ErrRange}, {of(1, m, 2, m, 2, 1), api.ErrOrder}, {of(1, m, 2, m, 3, m+1), api.ErrRange}, {of(2, m, 1, m), api.ErrOrder},
	}
	for _, n := range noIDs {
		all = append(all, wrong{of(n, 1), api.ErrRange}, wrong{of(1, 1, n, 1), api.ErrRange}, wrong{of(n, 1, 2, 1, 2, 1), api.ErrRange}, wrong{of(1, m, 2, m, n, 1), api.ErrRange})
	}
	for _, n := range []int{0, -1, m + 1, math.MinInt, math.MaxInt} {
		all = append(all, wrong{of(1, n), api.ErrRange}, wrong{of(1, 1, 2, n), api.ErrRange}, wrong{of(1, n, 2, 1, 2, 1), api.ErrRange}, wrong{of(2, 1, 2, n), api.ErrRange}, wrong{of(1, 5, 2, n, 3, -n), api.ErrRange})
	}
	return all
}

// P23.1 and P23.4: right shares, with the sum of their alcohol; the first error of wrong ones, which all functions of shares refuse before anything else.
func TestCheck(t *testing.T) {
	for _, l := range rightShares() {
		before := slices.Clone(l)
		if e := share.Check(l); e != api.OK {
			t.Error(l, e)
		}
		if n, e := share.Sum(l); n != sum(l) || e != api.OK {
			t.Error(l, n, e)
		}
		if !slices.Equal(l, before) {
			t.Error("changed", before)
		}
	}
	for _, x := range wrongShares() {
		before := slices.Clone(x.l)
		if e := share.Check(x.l); e != x.e {
			t.Error(x, e)
		}
		if n, e := share.Sum(x.l); n != 0 || e != api.ErrArg {
			t.Error(x, n, e)
		}
		for _, n := range []int{-1, 0, 1, math.MaxInt} {
			if taken, stays, e := share.Take(x.l, n); len(taken) != 0 || len(stays) != 0 || e != api.ErrArg {
				t.Error(x, n, taken, stays, e)
			}
			if parts, e := share.Parts(x.l, n); len(parts) != 0 || e != api.ErrArg {
				t.Error(x, n, parts, e)
			}
		}
		for _, l := range append(rightShares(), x.l) {
			for _, pair := range [][2][]api.Share{{x.l, l}, {l, x.l}} {
				if all, e := share.Join(pair[0], pair[1]); len(all) != 0 || e != api.ErrArg {
					t.Error(pair, all, e)
				}
			}
		}
		if !slices.Equal(x.l, before) {
			t.Error("changed", before)
		}
	}
}

// reference returns the error of few shares with small numbers, by the definition.
func reference(l []api.Share) api.Errno {
	for i, s := range l {
		if s.Fill < 1 || s.Alcohol < 1 {
			return api.ErrRange
		}
		if i > 0 && s.Fill <= l[i-1].Fill {
			return api.ErrOrder
		}
	}
	return api.OK
}

// P23.1: all lists of up to 3 shares with small numbers, against the definition.
func TestCheckSmall(t *testing.T) {
	var list func(l []api.Share)
	list = func(l []api.Share) {
		if e := share.Check(l); e != reference(l) {
			t.Error(l, e)
		}
		if len(l) == 3 {
			return
		}
		for fill := -1; fill < 4; fill++ {
			for alcohol := -1; alcohol < 2; alcohol++ {
				list(append(slices.Clone(l), api.Share{Fill: fill, Alcohol: alcohol}))
			}
		}
	}
	list(nil)
}

// divide returns the parts of an amount by weights whose sum is not 0, by the definition, with numbers of any size.
func divide(a int, weights []int) []int {
	all := big.NewInt(0)
	for _, w := range weights {
		all.Add(all, big.NewInt(int64(w)))
	}
	parts := make([]int, len(weights))
	rests := make([]*big.Int, len(weights))
	left := a
	for i, w := range weights {
		q, r := new(big.Int), new(big.Int)
		q.QuoRem(new(big.Int).Mul(big.NewInt(int64(a)), big.NewInt(int64(w))), all, r)
		parts[i], rests[i] = int(q.Int64()), r
		left -= parts[i]
	}
	order := make([]int, len(weights))
	for i := range order {
		order[i] = i
	}
	slices.SortStableFunc(order, func(i, k int) int { return rests[k].Cmp(rests[i]) })
	for _, i := range order[:left] {
		parts[i]++
	}
	return parts
}

// weights returns the alcohol of each share.
func weights(l []api.Share) []int {
	var all []int
	for _, s := range l {
		all = append(all, s.Alcohol)
	}
	return all
}

// nothingLess returns the shares that have alcohol.
func nothingLess(l []api.Share) []api.Share {
	return slices.DeleteFunc(l, func(s api.Share) bool { return s.Alcohol == 0 })
}

// take returns what is taken of shares, and what stays, by the definition.
func take(l []api.Share, alcohol int) ([]api.Share, []api.Share) {
	taken, stays := slices.Clone(l), slices.Clone(l)
	if len(l) > 0 {
		for i, n := range divide(alcohol, weights(l)) {
			taken[i].Alcohol = n
			stays[i].Alcohol -= n
		}
	}
	return nothingLess(taken), nothingLess(stays)
}

// checkTake takes from right shares, compares with the definition, and joins what it got.
func checkTake(t *testing.T, l []api.Share, alcohol int) {
	t.Helper()
	before := slices.Clone(l)
	want, left := take(l, alcohol)
	taken, stays, e := share.Take(l, alcohol)
	if !slices.Equal(taken, want) || !slices.Equal(stays, left) || e != api.OK {
		t.Fatal(l, alcohol, taken, stays, e)
	}
	if share.Check(taken) != api.OK || share.Check(stays) != api.OK || sum(taken) != alcohol || sum(stays) != sum(l)-alcohol {
		t.Fatal(l, alcohol, taken, stays)
	}
	all, e := share.Join(taken, stays)
	if !slices.Equal(all, l) || e != api.OK {
		t.Fatal(l, alcohol, all, e)
	}
	if !slices.Equal(l, before) {
		t.Fatal("changed", before)
	}
}

// amountsUpTo returns numbers from 0 to one that is included: both ends, and some between.
func amountsUpTo(n int) []int {
	all := []int{0, min(1, n), min(2, n), min(3, n), n / 7, n / 3, n / 2, n - n/3, n - min(2, n), n - min(1, n), n}
	slices.Sort(all)
	return slices.Compact(all)
}

// P23.1 and P23.4: the example of the document, and shares of all kinds, whose amounts are taken in part and as a whole.
func TestTake(t *testing.T) {
	taken, stays, e := share.Take(of(2, 10, 5, 21), 10)
	if !slices.Equal(taken, of(2, 3, 5, 7)) || !slices.Equal(stays, of(2, 7, 5, 14)) || e != api.OK {
		t.Error(taken, stays, e)
	}
	for _, l := range rightShares() {
		for _, n := range amountsUpTo(sum(l)) {
			checkTake(t, l, n)
		}
	}
	r := rand.New(rand.NewSource(231))
	for range 2000 {
		l := randomShares(r, 1+r.Intn(api.MaxFills), api.MaxFills, api.MaxAlcohol/api.MaxFills)
		checkTake(t, l, r.Intn(sum(l)+1))
	}
	// Of equal shares the first ones give more; shares of which nothing is taken, or nothing stays, are left out.
	taken, stays, e = share.Take(of(1, 1, 2, 1, 3, 1), 2)
	if !slices.Equal(taken, of(1, 1, 2, 1)) || !slices.Equal(stays, of(3, 1)) || e != api.OK {
		t.Error(taken, stays, e)
	}
}

// P23.1 and P23.4: all amounts of all lists of up to 3 small shares, against the definition.
func TestTakeSmall(t *testing.T) {
	for a := range 8 {
		for b := range 8 {
			for c := range 8 {
				l := nothingLess(of(1, a, 2, b, 3, c))
				for n := range sum(l) + 1 {
					checkTake(t, l, n)
				}
			}
		}
	}
}

// P23.1: an amount that is less than 0, and one that is greater than the sum.
func TestTakeRefuses(t *testing.T) {
	for _, l := range rightShares() {
		for _, n := range []int{-1, math.MinInt, sum(l) + 1, api.MaxAlcohol + 1, api.MaxMass + 1, math.MaxInt} {
			want := api.ErrShort
			if n < 0 {
				want = api.ErrRange
			}
			if taken, stays, e := share.Take(l, n); len(taken) != 0 || len(stays) != 0 || e != want {
				t.Error(l, n, taken, stays, e)
			}
		}
	}
}

// randomShares returns at most n shares of fills up to a number, with at most some alcohol each.
func randomShares(r *rand.Rand, n, fills, alcohol int) []api.Share {
	all := map[int]int{}
	for range n {
		all[1+r.Intn(fills)] = 1 + r.Intn(alcohol)
	}
	return sorted(all)
}

// sorted returns shares of fills with their alcohol.
func sorted(fills map[int]int) []api.Share {
	var l []api.Share
	for fill, n := range fills {
		l = append(l, api.Share{Fill: fill, Alcohol: n})
	}
	slices.SortFunc(l, func(s, u api.Share) int { return s.Fill - u.Fill })
	return l
}

// join returns the sums of lists of shares by the definition, and its error.
func join(lists ...[]api.Share) ([]api.Share, api.Errno) {
	fills := map[int]int{}
	all := 0
	for _, l := range lists {
		for _, s := range l {
			fills[s.Fill] += s.Alcohol
			all += s.Alcohol
		}
	}
	switch {
	case len(fills) > api.MaxFills:
		return nil, api.ErrFull
	case all > api.MaxAlcohol:
		return nil, api.ErrLimit
	}
	return sorted(fills), api.OK
}

// checkJoin joins two lists of right shares in both orders, and compares with the definition.
func checkJoin(t *testing.T, l, m []api.Share) {
	t.Helper()
	first, second := slices.Clone(l), slices.Clone(m)
	want, failed := join(l, m)
	for _, pair := range [][2][]api.Share{{l, m}, {m, l}} {
		if all, e := share.Join(pair[0], pair[1]); !slices.Equal(all, want) || e != failed {
			t.Fatal(pair, all, e)
		}
	}
	if !slices.Equal(l, first) || !slices.Equal(m, second) {
		t.Fatal("changed", first, second)
	}
	if failed == api.OK && share.Check(want) != api.OK {
		t.Fatal(want)
	}
}

// P23.1: the example of the document, and all pairs of lists of all kinds, among them ones with too many fills, and with too much alcohol.
func TestJoin(t *testing.T) {
	all, e := share.Join(of(2, 7, 5, 21), of(1, 4, 5, 1))
	if !slices.Equal(all, of(1, 4, 2, 7, 5, 22)) || e != api.OK {
		t.Error(all, e)
	}
	all, e = share.Join(of(2, 10, 5, 21), of(1, 4, 5, 1))
	if !slices.Equal(all, of(1, 4, 2, 10, 5, 22)) || e != api.OK {
		t.Error(all, e)
	}
	for _, l := range rightShares() {
		for _, m := range rightShares() {
			checkJoin(t, l, m)
		}
	}
	r := rand.New(rand.NewSource(232))
	for range 5000 {
		fills, alcohol := 20+r.Intn(30), 1+r.Intn(api.MaxAlcohol/15)
		checkJoin(t, nothingBeyond(randomShares(r, r.Intn(30), fills, alcohol)), nothingBeyond(randomShares(r, r.Intn(30), fills, alcohol)))
	}
}

// nothingBeyond returns as many shares as are right together.
func nothingBeyond(l []api.Share) []api.Share {
	for sum(l) > api.MaxAlcohol {
		l = l[:len(l)-1]
	}
	return l
}

// P23.1: all pairs of lists of up to 4 fills, against the definition.
func TestJoinSmall(t *testing.T) {
	var lists [][]api.Share
	for i := range 81 {
		lists = append(lists, nothingLess(of(1, i%3, 2, i/3%3, 3, i/9%3, 4, i/27)))
	}
	for _, l := range lists {
		for _, m := range lists {
			checkJoin(t, l, m)
		}
	}
}

// P23.1: too many fills come before too much alcohol; as many and as much as there may be are right.
func TestJoinLimits(t *testing.T) {
	m := api.MaxAlcohol
	for _, x := range []struct {
		l, m []api.Share
		e    api.Errno
	}{
		{row(16, 1, 1), row(16, 17, 1), api.OK}, {row(16, 1, 1), row(17, 17, 1), api.ErrFull}, {row(32, 1, 1), row(32, 1, 1), api.OK}, {row(32, 1, 1), row(32, 2, 1), api.ErrFull}, {row(32, 1, 1), of(33, 1), api.ErrFull},
		{of(1, m-1), of(1, 1), api.OK}, {of(1, m), of(1, 1), api.ErrLimit}, {of(1, m-1), of(2, 1), api.OK}, {of(1, m), of(2, 1), api.ErrLimit}, {of(1, m), of(1, m), api.ErrLimit}, {of(1, m), nil, api.OK},
		{row(32, 1, m/32), of(33, m), api.ErrFull}, {row(32, 1, m/32), of(32, m), api.ErrLimit},
	} {
		all, e := share.Join(x.l, x.m)
		if e != x.e || e != api.OK && len(all) != 0 {
			t.Error(x, all, e)
		}
		checkJoin(t, x.l, x.m)
	}
}

// rightLots are lots without a fault, up to all limits.
func rightLots() []api.Lot {
	var all []api.Lot
	for i, l := range rightShares() {
		for _, mass := range []int{1, 7, 100, api.MaxMass - 1, api.MaxMass} {
			all = append(all, lotOf(10*i+1, mass, l))
		}
	}
	return append(all, lotOf(api.MaxID, 5, of(2, 10, 5, 21)))
}

// wrongLots are lots with a fault of each kind.
func wrongLots() []api.Lot {
	right := of(2, 10, 5, 21)
	all := []api.Lot{{}, {ID: 7}, lotOf(7, 0, right), lotOf(7, -1, right), lotOf(7, api.MaxMass+1, right), lotOf(7, 100, row(33, 1, 1)), {ID: 7, Liquid: api.Liquid{Alcohol: 31, Mass: 100}}, {ID: 7, Liquid: api.Liquid{Alcohol: 30, Mass: 100}, Shares: right}, {ID: 7, Liquid: api.Liquid{Alcohol: -1, Mass: 100}}, {ID: 7, Liquid: api.Liquid{Mass: 100}, Shares: right}}
	for _, n := range noIDs {
		all = append(all, lotOf(n, 100, right))
	}
	for _, x := range wrongShares() {
		all = append(all, lotOf(7, 100, x.l))
	}
	return all
}

// checkDraw draws from a lot without a fault, compares with the definition, and vats what it got.
func checkDraw(t *testing.T, l api.Lot, mass, id int) {
	t.Helper()
	before := slices.Clone(l.Shares)
	product := new(big.Int).Mul(big.NewInt(int64(l.Liquid.Alcohol)), big.NewInt(int64(mass)))
	alcohol := int(product.Quo(product, big.NewInt(int64(l.Liquid.Mass))).Int64())
	taken, left := take(l.Shares, alcohol)
	drawn, stays, e := share.Draw(l, mass, id)
	if !same(drawn, lotOf(id, mass, taken)) || !same(stays, lotOf(l.ID, l.Liquid.Mass-mass, left)) || drawn.Liquid.Alcohol != alcohol || e != api.OK {
		t.Fatal(l, mass, id, drawn, stays, e)
	}
	if !slices.Equal(l.Shares, before) {
		t.Fatal("changed", before)
	}
	var both []api.Lot
	for _, x := range []api.Lot{drawn, stays} {
		if x.Liquid.Mass == 0 && (x.Liquid.Alcohol != 0 || len(x.Shares) != 0) {
			t.Fatal(l, mass, x)
		}
		if x.Liquid.Mass == 0 {
			continue
		}
		if i, e := lot.Check([]api.Lot{x}); i != -1 || e != api.OK {
			t.Fatal(l, mass, x, e)
		}
		x.ID = len(both) + 1
		both = append(both, x)
	}
	if again, e := share.Vat(both, l.ID); !same(again, l) || e != api.OK {
		t.Fatal(l, mass, again, e)
	}
}

// P23.2 and P23.4: masses that are drawn from lots of all kinds: nothing, a part, and all of it; vatted again with what stays they are the lot.
func TestDraw(t *testing.T) {
	for _, l := range rightLots() {
		for _, mass := range amountsUpTo(l.Liquid.Mass) {
			for _, id := range []int{1, l.ID, api.MaxID} {
				checkDraw(t, l, mass, id)
			}
		}
	}
	r := rand.New(rand.NewSource(233))
	for range 3000 {
		l := lotOf(1+r.Intn(9), 1+r.Intn(50), randomShares(r, r.Intn(6), 9, 60))
		checkDraw(t, l, r.Intn(l.Liquid.Mass+1), 1+r.Intn(9))
		l = lotOf(1+r.Intn(9), 1+r.Intn(api.MaxMass), randomShares(r, r.Intn(40), 99, api.MaxAlcohol/40))
		if len(l.Shares) <= api.MaxFills {
			checkDraw(t, l, r.Intn(l.Liquid.Mass+1), 1+r.Intn(api.MaxID))
		}
	}
}

// P23.2: the example of the terms: half of a lot with 60 of a fill is drawn; 40 of 100 of it with water give 12 and 18.
func TestDrawExample(t *testing.T) {
	half, rest, e := share.Draw(lotOf(5, 100, of(1, 60)), 50, 6)
	if !same(half, lotOf(6, 50, of(1, 30))) || !same(rest, lotOf(5, 50, of(1, 30))) || e != api.OK {
		t.Error(half, rest, e)
	}
	reduced, e := share.Vat([]api.Lot{half, lotOf(7, 50, nil)}, 6)
	if !same(reduced, lotOf(6, 100, of(1, 30))) || e != api.OK {
		t.Error(reduced, e)
	}
	drawn, stays, e := share.Draw(reduced, 40, 7)
	if !same(drawn, lotOf(7, 40, of(1, 12))) || !same(stays, lotOf(6, 60, of(1, 18))) || e != api.OK {
		t.Error(drawn, stays, e)
	}
	// So little is drawn that it has no alcohol; and all of it leaves the ID alone.
	if drawn, stays, e = share.Draw(lotOf(5, 100, of(1, 60)), 1, 6); !same(drawn, lotOf(6, 1, nil)) || !same(stays, lotOf(5, 99, of(1, 60))) || e != api.OK {
		t.Error(drawn, stays, e)
	}
	if drawn, stays, e = share.Draw(lotOf(5, 100, of(1, 60)), 100, 6); !same(drawn, lotOf(6, 100, of(1, 60))) || !same(stays, api.Lot{ID: 5}) || e != api.OK {
		t.Error(drawn, stays, e)
	}
	if drawn, stays, e = share.Draw(lotOf(5, 100, of(1, 60)), 0, 6); !same(drawn, api.Lot{ID: 6}) || !same(stays, lotOf(5, 100, of(1, 60))) || e != api.OK {
		t.Error(drawn, stays, e)
	}
}

// P23.2: a fault comes first, then an ID or a mass that is out of range, then a mass that is too great.
func TestDrawRefuses(t *testing.T) {
	refused := func(l api.Lot, mass, id int, want api.Errno) {
		t.Helper()
		if drawn, stays, e := share.Draw(l, mass, id); !isZero(drawn) || !isZero(stays) || e != want {
			t.Error(l, mass, id, drawn, stays, e)
		}
	}
	for _, l := range wrongLots() {
		for _, mass := range []int{-1, 0, 1, math.MaxInt} {
			refused(l, mass, 1, api.ErrArg)
			refused(l, mass, 0, api.ErrArg)
		}
	}
	for _, l := range rightLots() {
		for _, id := range noIDs {
			refused(l, 1, id, api.ErrRange)
			refused(l, math.MaxInt, id, api.ErrRange)
			refused(l, -1, id, api.ErrRange)
		}
		for _, mass := range []int{-1, math.MinInt} {
			refused(l, mass, 1, api.ErrRange)
		}
		for _, mass := range []int{l.Liquid.Mass + 1, api.MaxMass + 1, math.MaxInt} {
			refused(l, mass, 1, api.ErrShort)
		}
	}
}

// vat returns the lot of all lots together by the definition, and its error.
func vat(l []api.Lot, id int) (api.Lot, api.Errno) {
	var lists [][]api.Share
	mass := 0
	for _, x := range l {
		lists = append(lists, x.Shares)
		mass += x.Liquid.Mass
	}
	all, e := join(lists...)
	if e == api.OK && mass > api.MaxMass {
		e = api.ErrLimit
	}
	if e != api.OK {
		return api.Lot{}, e
	}
	return lotOf(id, mass, all), api.OK
}

// numbered returns lots with IDs from 1 on, and shares of their own.
func numbered(l ...api.Lot) []api.Lot {
	all := slices.Clone(l)
	for i, x := range all {
		all[i].ID = i + 1
		all[i].Shares = slices.Clone(x.Shares)
	}
	return all
}

// checkVat vats lots without a fault in two orders, and compares with the definition.
func checkVat(t *testing.T, l []api.Lot, id int) {
	t.Helper()
	before := numbered(l...)
	want, failed := vat(l, id)
	if x, e := share.Vat(l, id); !same(x, want) || e != failed {
		t.Fatal(l, id, x, e)
	}
	if !slices.EqualFunc(numbered(l...), before, same) {
		t.Fatal("changed", before)
	}
	turned := slices.Clone(l)
	slices.Reverse(turned)
	if x, e := share.Vat(numbered(turned...), id); !same(x, want) || e != failed {
		t.Fatal(turned, id, x, e)
	}
	if i, e := lot.Check([]api.Lot{want}); failed == api.OK && len(l) > 0 && e != api.OK {
		t.Fatal(want, i, e)
	}
}

// P23.2 and P23.4: pairs of lots of all kinds, and many lots, in any order; and none at all.
func TestVat(t *testing.T) {
	for _, x := range rightLots() {
		checkVat(t, numbered(x), x.ID)
		for _, y := range rightLots() {
			checkVat(t, numbered(x, y), y.ID)
		}
	}
	r := rand.New(rand.NewSource(234))
	for range 2000 {
		var l []api.Lot
		mass, alcohol, fills := 1+r.Intn(api.MaxMass/8), 1+r.Intn(api.MaxAlcohol/32), 1+r.Intn(40)
		for range r.Intn(api.MaxLots + 1) {
			l = append(l, lotOf(1, 1+r.Intn(mass), randomShares(r, r.Intn(5), fills, alcohol)))
		}
		checkVat(t, numbered(l...), 1+r.Intn(api.MaxID))
	}
	if x, e := share.Vat(nil, 7); !same(x, api.Lot{ID: 7}) || e != api.OK {
		t.Error(x, e)
	}
	// The IDs of the lots are not compared with the new one.
	for _, id := range []int{1, 5, 6, 9, 10, api.MaxID} {
		if x, e := share.Vat([]api.Lot{lotOf(5, 10, of(1, 4, 3, 1)), lotOf(9, 20, of(2, 8, 3, 1))}, id); !same(x, lotOf(id, 30, of(1, 4, 2, 8, 3, 2))) || e != api.OK {
			t.Error(id, x, e)
		}
	}
}

// P23.4: lots that are vatted by twos, in whatever order, are the same as those that are vatted at once.
func TestVatByTwos(t *testing.T) {
	r := rand.New(rand.NewSource(235))
	for range 1000 {
		var l []api.Lot
		for range 2 + r.Intn(6) {
			l = append(l, lotOf(1, 1+r.Intn(9), randomShares(r, r.Intn(4), 9, 9)))
		}
		want, e := share.Vat(numbered(l...), 3)
		if e != api.OK {
			t.Fatal(l, e)
		}
		for len(l) > 1 {
			r.Shuffle(len(l), func(i, k int) { l[i], l[k] = l[k], l[i] })
			both, e := share.Vat(numbered(l[0], l[1]), 3)
			if e != api.OK {
				t.Fatal(l, e)
			}
			l = append(l[2:], both)
		}
		if !same(l[0], want) {
			t.Fatal(l, want)
		}
	}
}

// P23.2: faults come first, then an ID that is out of range, then too many fills, then too much of it.
func TestVatRefuses(t *testing.T) {
	refused := func(l []api.Lot, id int, want api.Errno) {
		t.Helper()
		if x, e := share.Vat(l, id); !isZero(x) || e != want {
			t.Error(l, id, x, e)
		}
	}
	water := lotOf(1, 1, nil)
	many := func(n, mass int) []api.Lot { return numbered(slices.Repeat([]api.Lot{lotOf(1, mass, nil)}, n)...) }
	for _, x := range wrongLots() {
		refused([]api.Lot{x}, 1, api.ErrArg)
		refused([]api.Lot{x}, 0, api.ErrArg)
		refused([]api.Lot{water, x}, 1, api.ErrArg)
		refused([]api.Lot{lotOf(2, api.MaxMass, row(32, 1, 1)), lotOf(3, api.MaxMass, row(32, 33, 1)), x}, 1, api.ErrArg)
	}
	refused([]api.Lot{water, water}, 1, api.ErrArg)
	refused([]api.Lot{lotOf(2, 1, nil), water}, 1, api.ErrArg)
	refused(many(api.MaxLots+1, 1), 1, api.ErrArg)
	checkVat(t, many(api.MaxLots, 1), 1)
	for _, id := range noIDs {
		refused(nil, id, api.ErrRange)
		refused([]api.Lot{water}, id, api.ErrRange)
		refused(numbered(lotOf(1, api.MaxMass, row(32, 1, 1)), lotOf(1, api.MaxMass, row(32, 33, 1))), id, api.ErrRange)
	}
	m := api.MaxAlcohol
	for _, x := range []struct {
		l []api.Lot
		e api.Errno
	}{
		{numbered(lotOf(1, 1, row(16, 1, 1)), lotOf(1, 1, row(17, 17, 1))), api.ErrFull}, {numbered(lotOf(1, 1, row(32, 1, 1)), water, lotOf(1, 1, of(33, 1))), api.ErrFull}, {numbered(lotOf(1, api.MaxMass, row(32, 1, 1)), lotOf(1, api.MaxMass, of(33, m))), api.ErrFull},
		// The first two lots are too much, and all three have too many fills.
		{numbered(lotOf(1, api.MaxMass, of(1, m)), lotOf(1, api.MaxMass, of(1, m)), lotOf(1, 1, row(32, 2, 1))), api.ErrFull},
		{numbered(lotOf(1, 1, of(1, m)), lotOf(1, 1, of(1, 1))), api.ErrLimit}, {numbered(lotOf(1, 1, of(1, m)), lotOf(1, 1, of(2, 1))), api.ErrLimit}, {numbered(lotOf(1, api.MaxMass, nil), water), api.ErrLimit}, {numbered(lotOf(1, api.MaxMass-1, nil), water, water), api.ErrLimit}, {many(api.MaxLots, api.MaxMass/api.MaxLots+1), api.ErrLimit},
	} {
		refused(x.l, 1, x.e)
	}
	checkVat(t, numbered(lotOf(1, api.MaxMass-1, of(1, m-1)), lotOf(1, 1, of(1, 1))), 1)
	checkVat(t, many(api.MaxLots, api.MaxMass/api.MaxLots), 1)
}

// P23.3 and P23.4: the example of the document, and sums that are divided by shares of all kinds; the parts sum to the sum.
func TestParts(t *testing.T) {
	if parts, e := share.Parts(of(2, 10, 5, 20), 100); !slices.Equal(parts, []int{33, 67}) || e != api.OK {
		t.Error(parts, e)
	}
	check := func(l []api.Share, n int) {
		t.Helper()
		before := slices.Clone(l)
		parts, e := share.Parts(l, n)
		if !slices.Equal(parts, divide(n, weights(l))) || e != api.OK {
			t.Fatal(l, n, parts, e)
		}
		all := 0
		for _, x := range parts {
			all += x
		}
		if all != n || !slices.Equal(l, before) {
			t.Fatal(before, n, parts)
		}
	}
	r := rand.New(rand.NewSource(236))
	for _, l := range rightShares() {
		for _, n := range []int{0, 1, 2, 31, 100, 10000, api.MaxAlcohol, api.MaxAlcohol + 1, api.MaxMass - 1, api.MaxMass, r.Intn(api.MaxMass)} {
			if len(l) > 0 {
				check(l, n)
			} else if parts, e := share.Parts(l, n); len(parts) != 0 || e != api.ErrEmpty {
				t.Error(n, parts, e)
			}
		}
		// A sum that is out of range comes before having no shares.
		for _, n := range []int{-1, math.MinInt, api.MaxMass + 1, math.MaxInt} {
			if parts, e := share.Parts(l, n); len(parts) != 0 || e != api.ErrRange {
				t.Error(l, n, parts, e)
			}
		}
	}
	for i := 1; i < 125; i++ {
		for n := range 30 {
			check(nothingLess(of(1, i%5, 2, i/5%5, 3, i/25)), n)
		}
	}
}

// Rules: results share no memory with arguments, nor with one another, behind their ends neither.
func TestMemory(t *testing.T) {
	spoil := func(lists ...[]api.Share) {
		for _, l := range lists {
			for i := range l[:cap(l)] {
				l[:cap(l)][i] = api.Share{Fill: -1, Alcohol: -1}
			}
		}
	}
	room := func(l ...int) []api.Share { return append(make([]api.Share, 0, 40), of(l...)...) }
	l, m := room(2, 10, 5, 21), room(1, 4, 5, 1)
	kept := func(when string) {
		t.Helper()
		if !slices.Equal(l, of(2, 10, 5, 21)) || !slices.Equal(m, of(1, 4, 5, 1)) || l[:3][2].Fill != 0 || m[:3][2].Fill != 0 {
			t.Error(when, l, m)
		}
	}
	taken, stays, _ := share.Take(l, 10)
	spoil(taken)
	if !slices.Equal(stays, of(2, 7, 5, 14)) {
		t.Error(stays)
	}
	spoil(stays)
	kept("take")
	for _, n := range []int{0, 31} {
		taken, stays, _ = share.Take(l, n)
		spoil(taken, stays)
		kept("take all")
	}
	for _, pair := range [][2][]api.Share{{l, m}, {m, l}, {l, nil}, {nil, l}, {m, nil}, {nil, m}} {
		all, _ := share.Join(pair[0], pair[1])
		spoil(all)
		kept("join")
	}
	for _, mass := range []int{0, 1, 50, 100} {
		drawn, rest, _ := share.Draw(lotOf(7, 100, l), mass, 8)
		left := slices.Clone(rest.Shares)
		spoil(drawn.Shares)
		if !slices.Equal(rest.Shares, left) {
			t.Error(mass, rest)
		}
		spoil(rest.Shares)
		kept("draw")
	}
	for _, lots := range [][]api.Lot{{lotOf(7, 100, l)}, {lotOf(7, 100, l), lotOf(8, 1, nil)}, {lotOf(7, 100, l), lotOf(8, 1, m)}} {
		all, _ := share.Vat(lots, 9)
		spoil(all.Shares)
		kept("vat")
	}
}

// P1: no function panics, whatever its arguments are.
func TestNoPanic(t *testing.T) {
	for _, a := range extremes {
		for _, b := range extremes {
			for _, l := range [][]api.Share{nil, of(a, b), of(b, a, a, b), of(1, a, 2, b, 3, a), of(1, a, 2, a)} {
				share.Check(l)
				share.Sum(l)
				share.Join(l, of(1, a))
				share.Join(of(1, a), l)
				for _, n := range extremes {
					share.Take(l, n)
					share.Parts(l, n)
					x := api.Lot{ID: a, Liquid: api.Liquid{Alcohol: n, Mass: b}, Shares: l}
					share.Draw(x, n, 1)
					share.Draw(x, 1, n)
					share.Draw(lotOf(1, a, l), n, b)
					share.Vat([]api.Lot{x, lotOf(2, b, l)}, n)
					share.Vat([]api.Lot{lotOf(1, a, l), lotOf(2, n, l)}, b)
				}
			}
		}
	}
}
