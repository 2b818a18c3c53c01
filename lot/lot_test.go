package lot_test

import (
	"math"
	"math/rand"
	"reflect"
	"regexp"
	"slices"
	"strconv"
	"strings"
	"testing"

	"spile/api"
	"spile/lot"
)

// extremes are numbers at and beyond all limits.
var extremes = []int{math.MinInt, math.MinInt + 1, -1, 0, 1, 2, 32, 33, api.MaxID, api.MaxID + 1, api.MaxAlcohol, api.MaxAlcohol + 1, api.MaxMass, api.MaxMass + 1, 999999999999999, 1000000000000000, 1 << 62, math.MaxInt}

// noIDs are numbers that are no IDs.
var noIDs = []int{0, -1, api.MaxID + 1, math.MinInt, math.MaxInt}

// shares returns shares with the fills and the alcohol that follow one another.
func shares(l ...int) []api.Share {
	var all []api.Share
	for i := 0; i < len(l); i += 2 {
		all = append(all, api.Share{Fill: l[i], Alcohol: l[i+1]})
	}
	return all
}

// of returns the lot with an ID, a mass, and shares.
func of(id, mass int, l ...int) api.Lot {
	x := api.Lot{ID: id, Liquid: api.Liquid{Mass: mass}, Shares: shares(l...)}
	for _, s := range x.Shares {
		x.Liquid.Alcohol += s.Alcohol
	}
	return x
}

// row returns n lots with IDs from 1 on and the same mass.
func row(n, mass int) []api.Lot {
	l := make([]api.Lot, n)
	for i := range l {
		l[i] = of(i+1, mass)
	}
	return l
}

// shared returns n shares of fills from 1 on, with the same alcohol.
func shared(n, alcohol int) []int {
	var l []int
	for i := range n {
		l = append(l, i+1, alcohol)
	}
	return l
}

// copyOf returns lots with shares of their own.
func copyOf(l []api.Lot) []api.Lot {
	all := slices.Clone(l)
	for i, x := range all {
		all[i].Shares = slices.Clone(x.Shares)
	}
	return all
}

// same reports whether two lots are the same; those without shares may have an empty list.
func same(x, y api.Lot) bool {
	return x.ID == y.ID && x.Liquid == y.Liquid && slices.Equal(x.Shares, y.Shares)
}

// equal reports whether two lists of lots are the same.
func equal(l, m []api.Lot) bool {
	return slices.EqualFunc(l, m, same)
}

// example is the lot of the example of the document.
func example() api.Lot {
	return of(7, 100, 2, 10, 5, 20)
}

// fullest returns as many lots as possible with as many shares as possible, with the longest numbers.
func fullest() []api.Lot {
	var l []api.Lot
	for i := range api.MaxLots {
		x := api.Lot{ID: api.MaxID - api.MaxLots + 1 + i, Liquid: api.Liquid{Mass: api.MaxMass}}
		for k := range api.MaxFills {
			s := api.Share{Fill: api.MaxID - api.MaxFills + 1 + k, Alcohol: api.MaxAlcohol / api.MaxFills}
			x.Shares = append(x.Shares, s)
			x.Liquid.Alcohol += s.Alcohol
		}
		l = append(l, x)
	}
	return l
}

// rightLots are lists of lots that are right: empty, with water only, with many shares, and up to the limits.
func rightLots() [][]api.Lot {
	return [][]api.Lot{
		nil, {example()}, {of(1, 1)}, {of(1, 1, 1, 1)}, {of(api.MaxID, api.MaxMass, api.MaxID, api.MaxAlcohol)}, {of(1, 1, 1, api.MaxAlcohol)},
		{of(1, 100, 1, 5), of(2, 50), example(), of(9, 3, 1, 1, 2, 2, 3, 3)}, {of(3, 100, shared(api.MaxFills, 1)...), of(api.MaxID, 100, 5, 7)},
		row(api.MaxLots, 5), row(api.MaxLots-1, 5), fullest(), {of(1, 7, 1, api.MaxAlcohol-1, 2, 1), of(3, 7, 2, 1, api.MaxID, api.MaxAlcohol-1)},
	}
}

// wrong is a list of lots with the index and the error of its first fault.
type wrong struct {
	l     []api.Lot
	index int
	e     api.Errno
}

// faulty is a lot with a fault that it has by itself.
type faulty struct {
	x api.Lot
	e api.Errno
}

// faultyLots are lots with faults of each kind but for wrong IDs, and with several ones, with the ID 7.
func faultyLots() []faulty {
	right, full := shares(2, 10, 5, 20), shares(shared(api.MaxFills+1, 1)...)
	lot := func(alcohol, mass int, l []api.Share) api.Lot {
		return api.Lot{ID: 7, Liquid: api.Liquid{Alcohol: alcohol, Mass: mass}, Shares: l}
	}
	all := []faulty{
		// Mass 0, with and without shares.
		{lot(0, 0, shares(2, 10)), api.ErrArg}, {lot(30, 0, right), api.ErrArg}, {lot(30, 0, nil), api.ErrArg}, {lot(0, 0, full), api.ErrArg}, {lot(0, 0, shares(0, 0)), api.ErrArg},
		{lot(-1, 100, right), api.ErrArg}, {lot(30, -1, right), api.ErrArg}, {lot(0, -1, nil), api.ErrArg}, {lot(-1, 0, nil), api.ErrArg}, {lot(0, api.MaxMass+1, nil), api.ErrArg}, {lot(math.MinInt, math.MinInt, full), api.ErrArg},
		{lot(api.MaxAlcohol+1, 100, shares(1, api.MaxAlcohol, 2, 1)), api.ErrArg}, {lot(math.MaxInt, math.MaxInt, nil), api.ErrArg},
		// Too many shares, right, wrong, and with another sum.
		{lot(33, 100, full), api.ErrFull}, {lot(32, 100, full), api.ErrFull}, {lot(0, 100, make([]api.Share, api.MaxFills+1)), api.ErrFull}, {lot(30, 100, make([]api.Share, 1000)), api.ErrFull},
		// Fills that are equal, or fall.
		{lot(30, 100, shares(2, 10, 2, 20)), api.ErrMismatch}, {lot(30, 100, shares(5, 20, 2, 10)), api.ErrMismatch}, {lot(30, 100, shares(2, 10, 3, 10, 3, 10)), api.ErrMismatch}, {lot(0, 100, make([]api.Share, api.MaxFills)), api.ErrMismatch},
		{lot(10, 100, shares(2, 0, 5, 10)), api.ErrMismatch}, {lot(10, 100, shares(2, 10, 5, 0)), api.ErrMismatch}, {lot(10, 100, shares(2, 11, 5, -1)), api.ErrMismatch}, {lot(10, 100, shares(1, math.MaxInt, 2, math.MinInt, 3, 11)), api.ErrMismatch},
		{lot(api.MaxAlcohol, 100, shares(1, api.MaxAlcohol+1, 2, -1)), api.ErrMismatch}, {lot(31, 100, shares(5, 20, 2, 10)), api.ErrMismatch},
		{lot(api.MaxAlcohol, 100, shares(1, api.MaxAlcohol+1)), api.ErrMismatch}, {lot(30, 100, shares(2, 10, 5, math.MaxInt)), api.ErrMismatch},
		// Sums that are not those of the liquids.
		{lot(30, 100, shares(2, 10, 5, 21)), api.ErrProof}, {lot(30, 100, shares(2, 10, 5, 19)), api.ErrProof}, {lot(30, 100, nil), api.ErrProof}, {lot(0, 100, shares(2, 1)), api.ErrProof}, {lot(1, 100, nil), api.ErrProof},
		{lot(api.MaxAlcohol, 100, shares(1, api.MaxAlcohol, 2, 1)), api.ErrProof}, {lot(api.MaxAlcohol, 100, shares(1, api.MaxAlcohol, 2, api.MaxAlcohol)), api.ErrProof}, {lot(33, 100, shares(shared(api.MaxFills, 1)...)), api.ErrProof},
	}
	for _, n := range noIDs {
		all = append(all, faulty{lot(30, 100, shares(n, 30)), api.ErrMismatch}, faulty{lot(30, 100, shares(n, 10, 5, 20)), api.ErrMismatch}, faulty{lot(30, 100, shares(1, 10, n, 20)), api.ErrMismatch})
	}
	return all
}

// wrongLots are lists with faults of each kind, and with several ones.
func wrongLots() []wrong {
	all := []wrong{
		{make([]api.Lot, api.MaxLots+1), -1, api.ErrTooLarge}, {row(api.MaxLots+1, 5), -1, api.ErrTooLarge}, {slices.Repeat([]api.Lot{example()}, 1000), -1, api.ErrTooLarge},
		{[]api.Lot{example(), example()}, 1, api.ErrOrder}, {[]api.Lot{of(2, 1), of(1, 1)}, 1, api.ErrOrder}, {[]api.Lot{of(1, 1), of(3, 1), of(2, 1)}, 2, api.ErrOrder}, {[]api.Lot{of(1, 1), of(3, 1), of(3, 1)}, 2, api.ErrOrder},
		{[]api.Lot{of(api.MaxID, 1), of(api.MaxID, 1)}, 1, api.ErrOrder}, {make([]api.Lot, api.MaxLots), 0, api.ErrRange}, {append(row(api.MaxLots-1, 5), of(31, 5)), 31, api.ErrOrder},
		// The first lot with a fault decides, and of its faults the first one.
		{[]api.Lot{of(1, 1), of(2, 0), of(0, 1), of(1, 1)}, 1, api.ErrArg}, {[]api.Lot{of(2, 1), of(1, 0)}, 1, api.ErrOrder}, {[]api.Lot{of(2, 1), of(0, 0)}, 1, api.ErrRange}, {[]api.Lot{of(2, 1), of(2, -1, 1, 1)}, 1, api.ErrOrder},
	}
	for _, n := range noIDs {
		all = append(all, wrong{[]api.Lot{of(n, 100)}, 0, api.ErrRange}, wrong{[]api.Lot{of(n, 0, 0, 0)}, 0, api.ErrRange}, wrong{[]api.Lot{of(1, 1), of(2, 1), of(n, 1), of(1, 0)}, 2, api.ErrRange})
	}
	for _, f := range faultyLots() {
		after := f.x
		after.ID = 6
		all = append(all, wrong{[]api.Lot{f.x}, 0, f.e}, wrong{[]api.Lot{of(1, 1), of(2, 1), f.x, f.x}, 2, f.e}, wrong{[]api.Lot{example(), f.x}, 1, api.ErrOrder}, wrong{[]api.Lot{f.x, after}, 0, f.e}, wrong{[]api.Lot{after, f.x}, 0, f.e})
	}
	return all
}

// P22.1: the example of the document, lots of all kinds, and the first fault with its index.
func TestCheck(t *testing.T) {
	for _, l := range rightLots() {
		if i, e := lot.Check(l); i != -1 || e != api.OK {
			t.Error(l, i, e)
		}
	}
	for _, x := range wrongLots() {
		before := copyOf(x.l)
		if i, e := lot.Check(x.l); i != x.index || e != x.e {
			t.Error(x, i, e)
		}
		if !equal(x.l, before) {
			t.Error("changed", x)
		}
	}
	x := example()
	x.Shares[1].Alcohol = 21
	if i, e := lot.Check([]api.Lot{x}); i != 0 || e != api.ErrProof {
		t.Error(i, e)
	}
}

// reference returns the first fault of few lots with small numbers, by the definition.
func reference(l []api.Lot) (int, api.Errno) {
	for i, x := range l {
		sum, rises, good := 0, true, true
		for k, s := range x.Shares {
			sum += s.Alcohol
			rises = rises && (k == 0 || s.Fill > x.Shares[k-1].Fill)
			good = good && s.Fill >= 1 && s.Alcohol >= 1
		}
		switch {
		case x.ID < 1:
			return i, api.ErrRange
		case i > 0 && x.ID <= l[i-1].ID:
			return i, api.ErrOrder
		case x.Liquid.Alcohol < 0 || x.Liquid.Mass < 1:
			return i, api.ErrArg
		case !rises || !good:
			return i, api.ErrMismatch
		case sum != x.Liquid.Alcohol:
			return i, api.ErrProof
		}
	}
	return -1, api.OK
}

// P22.1: all lists of up to 2 lots with few numbers, against the definition.
func TestCheckSmall(t *testing.T) {
	var all []api.Lot
	lists := [][]api.Share{nil, shares(1, 1), shares(1, 0), shares(0, 1), shares(1, 1, 2, 1), shares(2, 1, 1, 1), shares(1, 1, 1, 1), shares(1, 2, 2, -1)}
	for id := range 4 {
		for alcohol := -1; alcohol < 3; alcohol++ {
			for mass := -1; mass < 2; mass++ {
				for _, l := range lists {
					all = append(all, api.Lot{ID: id, Liquid: api.Liquid{Alcohol: alcohol, Mass: mass}, Shares: l})
				}
			}
		}
	}
	check := func(l []api.Lot) {
		index, want := reference(l)
		if i, e := lot.Check(l); i != index || e != want {
			t.Fatal(l, i, e)
		}
	}
	for _, x := range all {
		check([]api.Lot{x})
		for _, y := range all {
			check([]api.Lot{x, y})
		}
	}
}

// P22.1: lots of all kinds and with all faults: the first one with an ID.
func TestFind(t *testing.T) {
	lists := rightLots()
	for _, x := range wrongLots() {
		lists = append(lists, x.l)
	}
	lists = append(lists, []api.Lot{of(3, 1), of(1, 2), of(3, 3, 1, 1), of(-5, 4), of(1, 5), of(-5, 6), of(math.MaxInt, 7), of(2, 8, 0, 0)})
	for _, l := range lists {
		before := copyOf(l)
		ids := slices.Clone(extremes)
		for _, x := range l[:min(len(l), 40)] {
			ids = append(ids, x.ID-1, x.ID, x.ID+1)
		}
		for _, id := range ids {
			var want api.Lot
			found := false
			for _, x := range l {
				if x.ID == id {
					want, found = x, true
					break
				}
			}
			if got, ok := lot.Find(l, id); !same(got, want) || ok != found {
				t.Error(l, id, got, ok)
			}
		}
		if !equal(l, before) {
			t.Error("changed", l)
		}
	}
}

// put returns the lots with a lot in its place, by the definition.
func put(l []api.Lot, x api.Lot) []api.Lot {
	all := map[int]api.Lot{}
	for _, y := range l {
		all[y.ID] = y
	}
	all[x.ID] = x
	if x.Liquid == (api.Liquid{}) {
		delete(all, x.ID)
	}
	var result []api.Lot
	for _, y := range all {
		result = append(result, y)
	}
	slices.SortFunc(result, func(x, y api.Lot) int { return x.ID - y.ID })
	return result
}

// checkPut puts a right or an empty lot among right ones, and compares with the definition.
func checkPut(t *testing.T, l []api.Lot, x api.Lot) []api.Lot {
	t.Helper()
	before, shares := copyOf(l), slices.Clone(x.Shares)
	want := put(l, x)
	got, e := lot.Put(l, x)
	if !equal(l, before) || !slices.Equal(x.Shares, shares) {
		t.Fatal("changed", before, x)
	}
	if len(want) > api.MaxLots {
		if len(got) != 0 || e != api.ErrTooLarge {
			t.Fatal(l, x, got, e)
		}
		return l
	}
	if !equal(got, want) || e != api.OK {
		t.Fatal(l, x, got, e)
	}
	// A second time nothing changes.
	if again, e := lot.Put(got, x); !equal(again, got) || e != api.OK {
		t.Fatal(l, x, again, e)
	}
	if y, found := lot.Find(got, x.ID); found == (x.Liquid == api.Liquid{}) || found && !same(x, y) {
		t.Fatal(l, x, y, found)
	}
	return got
}

// P22.2 and P22.4: lots in the place of others, ahead of, between and behind them, and taken away; all others stay as they are.
func TestPut(t *testing.T) {
	for _, l := range rightLots() {
		for _, id := range []int{1, 2, 3, 4, 6, 7, 8, 9, 10, 31, 32, 33, api.MaxID - 32, api.MaxID - 31, api.MaxID - 1, api.MaxID} {
			for _, x := range []api.Lot{of(id, 5), of(id, 100, 2, 10), of(id, api.MaxMass, shared(api.MaxFills, 7)...), {ID: id}, {ID: id, Shares: []api.Share{}}} {
				checkPut(t, l, x)
			}
		}
	}
	r := rand.New(rand.NewSource(221))
	var l []api.Lot
	for range 3000 {
		x := of(1+r.Intn(40), 1+r.Intn(100), 1+r.Intn(3), 1+r.Intn(9), 4+r.Intn(3), 1+r.Intn(9))
		if r.Intn(5) == 0 {
			x = api.Lot{ID: x.ID}
		}
		l = checkPut(t, l, x)
	}
}

// P22.2: lots with a fault come first, then an ID that is out of range, then what is wrong with the lot alone, and then too many lots.
func TestPutRefuses(t *testing.T) {
	refused := func(l []api.Lot, x api.Lot, want api.Errno) {
		t.Helper()
		if got, e := lot.Put(l, x); len(got) != 0 || e != want {
			t.Error(l, x, got, e)
		}
	}
	for _, x := range wrongLots() {
		refused(x.l, example(), api.ErrArg)
		refused(x.l, of(0, 0, 0, 0), api.ErrArg)
		refused(x.l, api.Lot{ID: 7}, api.ErrArg)
	}
	for _, l := range rightLots() {
		for _, id := range noIDs {
			refused(l, of(id, 100), api.ErrRange)
			refused(l, api.Lot{ID: id}, api.ErrRange)
			refused(l, of(id, 0, 0, 0), api.ErrRange)
		}
		for _, f := range faultyLots() {
			refused(l, f.x, f.e)
		}
	}
	full := row(api.MaxLots, 5)
	refused(full, of(33, 5), api.ErrTooLarge)
	refused(full, of(api.MaxID, 5, 1, 1), api.ErrTooLarge)
	for i := range full {
		full[i].ID = 2 * (i + 1)
	}
	for id := 1; id < 66; id += 2 {
		refused(full, of(id, 5), api.ErrTooLarge)
		checkPut(t, full, api.Lot{ID: id})
		checkPut(t, full, of(min(id+1, 64), 9))
	}
	// The ID of a lot is not compared with those of others.
	if got, e := lot.Put([]api.Lot{of(8, 1)}, of(7, 1)); !equal(got, []api.Lot{of(7, 1), of(8, 1)}) || e != api.OK {
		t.Error(got, e)
	}
}

// P22.2 and P22.4: the sums of lots of all kinds; what there is of all fills sums to the alcohol of the total.
func TestTotal(t *testing.T) {
	for _, l := range rightLots() {
		before := copyOf(l)
		want := api.Liquid{}
		fills := map[int]int{}
		for _, x := range l {
			want.Alcohol += x.Liquid.Alcohol
			want.Mass += x.Liquid.Mass
			for _, s := range x.Shares {
				fills[s.Fill] += s.Alcohol
			}
		}
		all := want.Alcohol
		failed := api.OK
		if want.Alcohol > api.MaxAlcohol || want.Mass > api.MaxMass {
			want, failed = api.Liquid{}, api.ErrLimit
		}
		if got, e := lot.Total(l); got != want || e != failed {
			t.Error(l, got, e)
		}
		for fill, n := range fills {
			if got, e := lot.Of(l, fill); got != n || e != api.OK {
				t.Error(l, fill, got, e)
			}
			all -= n
		}
		if all != 0 {
			t.Error(l, all)
		}
		for _, fill := range []int{1, 2, 3, 4, 5, 6, 1000, api.MaxID - 32, api.MaxID - 31, api.MaxID - 1, api.MaxID} {
			if got, e := lot.Of(l, fill); got != fills[fill] || e != api.OK {
				t.Error(l, fill, got, e)
			}
		}
		for _, fill := range noIDs {
			if got, e := lot.Of(l, fill); got != 0 || e != api.ErrRange {
				t.Error(l, fill, got, e)
			}
		}
		if !equal(l, before) {
			t.Error("changed", l)
		}
	}
}

// P22.2: sums up to the limits and beyond, also of more lots than can be mixed at once, and lots with a fault.
func TestTotalRefuses(t *testing.T) {
	for _, x := range []struct {
		l    []api.Lot
		want api.Liquid
		e    api.Errno
	}{
		{row(32, api.MaxMass/32), api.Liquid{Mass: api.MaxMass}, api.OK}, {append(row(31, api.MaxMass/32), of(32, api.MaxMass/32+1)), api.Liquid{}, api.ErrLimit}, {row(32, api.MaxMass), api.Liquid{}, api.ErrLimit},
		{[]api.Lot{of(1, 1, 1, api.MaxAlcohol-1), of(2, 1, 1, 1)}, api.Liquid{Alcohol: api.MaxAlcohol, Mass: 2}, api.OK}, {[]api.Lot{of(1, 1, 1, api.MaxAlcohol-1), of(2, 1, 1, 2)}, api.Liquid{}, api.ErrLimit},
		{[]api.Lot{of(1, api.MaxMass), of(2, 1)}, api.Liquid{}, api.ErrLimit}, {[]api.Lot{of(1, 1), of(2, api.MaxMass)}, api.Liquid{}, api.ErrLimit}, {[]api.Lot{of(1, api.MaxMass), of(2, 1), of(3, 1)}, api.Liquid{}, api.ErrLimit},
	} {
		if got, e := lot.Total(x.l); got != x.want || e != x.e {
			t.Error(x, got, e)
		}
	}
	// The alcohol of a fill has no such limit.
	all := make([]api.Lot, api.MaxLots)
	for i := range all {
		all[i] = of(i+1, 1, 5, api.MaxAlcohol)
	}
	if got, e := lot.Of(all, 5); got != api.MaxLots*api.MaxAlcohol || e != api.OK {
		t.Error(got, e)
	}
	for _, x := range wrongLots() {
		if got, e := lot.Total(x.l); got != (api.Liquid{}) || e != api.ErrArg {
			t.Error(x, got, e)
		}
		for _, fill := range extremes {
			if got, e := lot.Of(x.l, fill); got != 0 || e != api.ErrArg {
				t.Error(x, fill, got, e)
			}
		}
		if text, e := lot.Print(x.l); text != "" || e != api.ErrArg {
			t.Error(x, text, e)
		}
	}
}

// P22.3 and P22.4: the texts of lots of all kinds, which are parsed to them.
func TestPrint(t *testing.T) {
	if text, e := lot.Print([]api.Lot{of(1, 5), example()}); text != "lot 1 mass 5\nlot 7 mass 100 fill 2 alcohol 10 fill 5 alcohol 20\n" || e != api.OK {
		t.Error(text, e)
	}
	for _, l := range rightLots() {
		before := copyOf(l)
		var want strings.Builder
		for _, x := range l {
			words := []string{"lot", strconv.Itoa(x.ID), "mass", strconv.Itoa(x.Liquid.Mass)}
			for _, s := range x.Shares {
				words = append(words, "fill", strconv.Itoa(s.Fill), "alcohol", strconv.Itoa(s.Alcohol))
			}
			want.WriteString(strings.Join(words, " ") + "\n")
		}
		text, e := lot.Print(l)
		if text != want.String() || e != api.OK || !equal(l, before) {
			t.Error(l, text, e)
		}
		if got, line, e := lot.Parse(text); !equal(got, l) || line != -1 || e != api.OK {
			t.Error(text, got, line, e)
		}
	}
}

// refused checks that a text has no lots.
func refused(t *testing.T, text string, line int, want api.Errno) {
	t.Helper()
	if got, n, e := lot.Parse(text); len(got) != 0 || n != line || e != want {
		t.Errorf("%.99q %v %v %v", text, got, n, e)
	}
}

// P22.3: the first line that does not have the form, wherever it stands.
func TestParseFindsSyntax(t *testing.T) {
	for _, line := range []string{
		"\n", " \n", "lot\n", "lot 1\n", "lot 1 mass\n", "lot 1 mass \n", "lot  mass 5\n", "lot 1 5\n", "1 mass 5\n", "mass 5\n", "lot mass 1 5\n", "mass 5 lot 1\n",
		" lot 1 mass 5\n", "lot  1 mass 5\n", "lot 1  mass 5\n", "lot 1 mass  5\n", "lot 1 mass 5 \n", "lot 1 mass 5  fill 1 alcohol 2\n", "lot 1 mass 5 fill 1 alcohol 2 \n", "lot 1 mass 5 fill 1  alcohol 2\n",
		"lot 1 mass 5 1\n", "lot 1 mass 5 fill\n", "lot 1 mass 5 fill 1\n", "lot 1 mass 5 fill 1 alcohol\n", "lot 1 mass 5 fill 1 alcohol \n", "lot 1 mass 5 fill  alcohol 2\n", "lot 1 mass 5 alcohol 2\n", "lot 1 mass 5 fill 1 alcohol 2 fill\n",
		"lot 1 mass 5 fill 1 alcohol 2 3\n", "lot 1 mass 5 fill 1 alcohol 2 fill 3\n", "lot 1 mass 5 fill 1 alcohol 2 fill 3 alcohol\n", "lot 1 mass 5 alcohol 2 fill 1\n", "lot 1 mass 5 lot 1 mass 5\n", "fill 1 alcohol 2\n",
		"Lot 1 mass 5\n", "lot 1 Mass 5\n", "lot 1 mass 5 Fill 1 alcohol 2\n", "lot 1 mass 5 fill 1 Alcohol 2\n", "lots 1 mass 5\n", "lot 1 masses 5\n", "lot 1 lot 5\n", "lot 1 mass 5 fill 1 fill 2\n", "lot 1 mass 5 mass 1 alcohol 2\n",
		"lot\t1 mass 5\n", "lot 1\u00a0mass 5\n", "lot 1 mass 5\r\n", "lot 1 mass 5\r", "\rlot 1 mass 5\n", "lot 1 mass 5\x00\n", "lot 1 mass 5;lot 2 mass 5\n",
		"lot 00 mass 5\n", "lot 01 mass 5\n", "lot 1 mass 05\n", "lot 1 mass 5 fill 01 alcohol 2\n", "lot 1 mass 5 fill 1 alcohol 02\n", "lot 1 mass 5 fill 1 alcohol 00\n",
		"lot -1 mass 5\n", "lot +1 mass 5\n", "lot -0 mass 5\n", "lot 1 mass -5\n", "lot 1 mass +5\n", "lot 1 mass 5 fill -1 alcohol 2\n", "lot 1 mass 5 fill 1 alcohol -2\n", "lot 1 mass 5 fill 1 alcohol -0\n", "lot 1 mass 5 fill +1 alcohol 2\n",
		"lot 1000000000000000 mass 5\n", "lot 1 mass 1000000000000000\n", "lot 1 mass 5 fill 1000000000000000 alcohol 2\n", "lot 1 mass 5 fill 1 alcohol 1000000000000000\n", "lot 1 mass 9223372036854775808\n", "lot 18446744073709551617 mass 5\n", "lot 1 mass 0000000000000005\n",
		"lot a mass 5\n", "lot 0x1 mass 5\n", "lot 1 mass 5_0\n", "lot 1 mass 5.0\n", "lot 1e1 mass 5\n", "lot / mass 5\n", "lot 1 mass :\n", "lot \uff11 mass 5\n", "lot 1 mass \u0663\n",
	} {
		refused(t, line, 0, api.ErrSyntax)
		refused(t, line+"lot 7 mass 100\n", 0, api.ErrSyntax)
		refused(t, "lot 1 mass 5\n"+line, 1, api.ErrSyntax)
		refused(t, "lot 1 mass 5\n"+line+"lot 7 mass 100\n", 1, api.ErrSyntax)
		// Lots with faults, and a second line that is none.
		refused(t, "lot 0 mass 0\nlot 999999999999999 mass 0 fill 0 alcohol 0\n"+line+"\n", 2, api.ErrSyntax)
	}
	refused(t, "lot 1 mass 5", 0, api.ErrSyntax)
	refused(t, "lot 1 mass 5\nlot 7 mass 100 fill 2 alcohol 10", 1, api.ErrSyntax)
	refused(t, "lot 1 mass 5\nlot 7 mass 100\n\n", 2, api.ErrSyntax)
	refused(t, "lot 1 mass 5\n\nlot 7 mass 100\n", 1, api.ErrSyntax)
	refused(t, strings.Repeat("lot 1 mass 5\n", 1000)+"x\n", 1000, api.ErrSyntax)
}

// P22.3: texts that are too large, and lots with faults: all errors of Check, with the line -1.
func TestParseRefuses(t *testing.T) {
	line := "lot 1 mass 5\n"
	longest := strings.Repeat(line, api.MaxData/len(line))
	longest += strings.Repeat("\n", api.MaxData-len(longest))
	refused(t, longest, api.MaxData/len(line), api.ErrSyntax)
	refused(t, longest+"\n", -1, api.ErrTooLarge)
	refused(t, strings.Repeat("\n", api.MaxData+1), -1, api.ErrTooLarge)
	refused(t, strings.Repeat("x", api.MaxData+1), -1, api.ErrTooLarge)
	refused(t, strings.Repeat("x", api.MaxData), 0, api.ErrSyntax)
	refused(t, strings.Repeat(line, api.MaxLots+1), -1, api.ErrTooLarge)
	refused(t, strings.Repeat(line, api.MaxLots), -1, api.ErrOrder)
	for text, e := range map[string]api.Errno{
		"lot 0 mass 5\n": api.ErrRange, "lot 1073741825 mass 5\n": api.ErrRange, "lot 999999999999999 mass 0\n": api.ErrRange, "lot 1 mass 5\nlot 1 mass 0\n": api.ErrOrder, "lot 2 mass 5\nlot 1 mass 5 fill 0 alcohol 0\n": api.ErrOrder,
		"lot 1 mass 0\n": api.ErrArg, "lot 1 mass 0 fill 1 alcohol 1\n": api.ErrArg, "lot 1 mass 128849018880001\n": api.ErrArg, "lot 1 mass 999999999999999\n": api.ErrArg, "lot 1 mass 5 fill 1 alcohol 10737418240001\n": api.ErrArg,
		"lot 1 mass 5 fill 1 alcohol 10737418240000 fill 2 alcohol 1\n": api.ErrArg, "lot 1 mass 5 fill 1 alcohol 999999999999999\n": api.ErrArg, "lot 1 mass 5" + strings.Repeat(" fill 1 alcohol 999999999999999", 2000) + "\n": api.ErrArg,
		"lot 1 mass 5" + strings.Repeat(" fill 1 alcohol 1", 33) + "\n": api.ErrFull, "lot 1 mass 5" + strings.Repeat(" fill 1 alcohol 1", 32) + "\n": api.ErrMismatch, "lot 1 mass 5" + strings.Repeat(" fill 0 alcohol 0", 3000) + "\n": api.ErrFull,
		"lot 1 mass 5 fill 0 alcohol 1\n": api.ErrMismatch, "lot 1 mass 5 fill 1 alcohol 0\n": api.ErrMismatch, "lot 1 mass 5 fill 1073741825 alcohol 1\n": api.ErrMismatch, "lot 1 mass 5 fill 2 alcohol 1 fill 1 alcohol 1\n": api.ErrMismatch,
		"lot 1 mass 5 fill 2 alcohol 1 fill 2 alcohol 1\n": api.ErrMismatch, "lot 1 mass 5 fill 999999999999999 alcohol 0\n": api.ErrMismatch, "lot 1 mass 5\nlot 2 mass 0\nlot 0 mass 5\n": api.ErrArg,
	} {
		refused(t, text, -1, e)
	}
	if l, line, e := lot.Parse(""); len(l) != 0 || line != -1 || e != api.OK {
		t.Error(l, line, e)
	}
}

// form is the form of a line.
var form = regexp.MustCompile(`^lot (0|[1-9][0-9]{0,14}) mass (0|[1-9][0-9]{0,14})( fill (0|[1-9][0-9]{0,14}) alcohol (0|[1-9][0-9]{0,14}))*\n$`)

// firstBad returns the number of the first line of a text that does not have the form, or -1.
func firstBad(text string) int {
	for i, line := range strings.SplitAfter(text, "\n") {
		if line != "" && !form.MatchString(line) {
			return i
		}
	}
	return -1
}

// P22.3 and P22.4: every byte of a text changed, put in or left out, against a regular expression; what is accepted is printed as it was.
func TestNoOtherText(t *testing.T) {
	text := "lot 1 mass 5\nlot 7 mass 100 fill 2 alcohol 10 fill 5 alcohol 20\nlot 9 mass 8 fill 2 alcohol 1\n"
	check := func(changed string) {
		t.Helper()
		l, line, e := lot.Parse(changed)
		if bad := firstBad(changed); bad >= 0 {
			if len(l) != 0 || line != bad || e != api.ErrSyntax {
				t.Errorf("%q %v %v %v", changed, l, line, e)
			}
			return
		}
		if line != -1 || e == api.ErrSyntax {
			t.Errorf("%q %v %v %v", changed, l, line, e)
		}
		if again, f := lot.Print(l); e == api.OK && (again != changed || f != api.OK) {
			t.Errorf("%q %q %v", changed, again, f)
		}
	}
	for i := range len(text) + 1 {
		for b := range 256 {
			check(text[:i] + string([]byte{byte(b)}) + text[i:])
			if i < len(text) {
				check(text[:i] + string([]byte{byte(b)}) + text[i+1:])
			}
		}
		if i < len(text) {
			check(text[:i] + text[i+1:])
		}
		check(text[:i])
		check(text[i:])
	}
}

// spoil writes into lots, behind them, and behind their shares.
func spoil(l []api.Lot) {
	for i := range l {
		_ = append(l[i].Shares, api.Share{Fill: 9, Alcohol: 9})
		clear(l[i].Shares)
	}
	_ = append(l, api.Lot{ID: 9})
	clear(l)
}

// Arguments are not changed, nor is what lies behind them in the same memory; results share no memory.
func TestArgumentsStay(t *testing.T) {
	make := func() []api.Lot {
		x := example()
		x.Shares = append(x.Shares, api.Share{Fill: 6, Alcohol: 6})[:2]
		return append([]api.Lot{of(1, 5, 1, 1), x, of(8, 3)}, of(10, 10))[:3]
	}
	l := make()
	put := example()
	put.Shares = append(put.Shares, api.Share{Fill: 6, Alcohol: 6})[:2]
	for i, do := range []func() []api.Lot{
		func() []api.Lot { r, _ := lot.Put(l, put); return r },
		func() []api.Lot { r, _ := lot.Put(l, api.Lot{ID: 7}); return r },
		func() []api.Lot { r, _ := lot.Put(l, api.Lot{ID: 9}); return r },
		func() []api.Lot { r, _ := lot.Put(l, of(9, 4)); return r },
		func() []api.Lot { r, _ := lot.Put(l, of(2, 4, 3, 3)); return r },
		func() []api.Lot { r, _ := lot.Find(l, 7); return []api.Lot{r} },
		func() []api.Lot {
			r, _, _ := lot.Parse("lot 1 mass 5\nlot 7 mass 100 fill 2 alcohol 10 fill 5 alcohol 20\n")
			return r
		},
	} {
		got := do()
		want := copyOf(got)
		spoil(got)
		if again := do(); !equal(again, want) {
			t.Error(i, again, want)
		}
	}
	lot.Check(l)
	lot.Total(l)
	lot.Of(l, 2)
	lot.Print(l)
	if !reflect.DeepEqual(l[:4], make()[:4]) || !slices.Equal(l[1].Shares[:3], make()[1].Shares[:3]) || !slices.Equal(put.Shares[:3], make()[1].Shares[:3]) {
		t.Error(l[:4], put)
	}
}

// P1: no function panics, for all arguments.
func TestNoPanic(t *testing.T) {
	for _, a := range extremes {
		for _, b := range extremes {
			x := api.Lot{ID: a, Liquid: api.Liquid{Alcohol: a, Mass: b}, Shares: shares(a, b, b, a)}
			y := api.Lot{ID: b, Liquid: api.Liquid{Alcohol: a, Mass: b}, Shares: slices.Repeat(shares(a, b), 100)}
			for _, l := range [][]api.Lot{nil, {x}, {y}, {x, y}, {example(), x}, {example()}, slices.Repeat([]api.Lot{x}, 100)} {
				lot.Check(l)
				lot.Find(l, a)
				lot.Put(l, x)
				lot.Put(l, y)
				lot.Put(l, api.Lot{ID: a})
				lot.Put([]api.Lot{example()}, api.Lot{ID: a, Liquid: api.Liquid{Alcohol: b, Mass: b}})
				lot.Total(l)
				lot.Of(l, b)
				lot.Print(l)
			}
			lot.Parse("lot " + strconv.Itoa(a) + " mass " + strconv.Itoa(b) + " fill " + strconv.Itoa(a) + " alcohol " + strconv.Itoa(b) + "\n")
		}
	}
}
