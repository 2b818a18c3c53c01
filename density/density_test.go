package density_test

import (
	"math"
	"regexp"
	"slices"
	"strconv"
	"strings"
	"testing"

	"spile/api"
	"spile/density"
)

const (
	most     = api.MaxStrength
	least    = api.MinDensity
	greatest = api.MaxDensity
	mostRows = api.MaxRows
)

// extremes are numbers at and beyond all limits.
var extremes = []int{math.MinInt, -1, 0, 1, 127, 128, 129, most - 1, most, most + 1, least - 1, least, greatest, greatest + 1, 999999, 1000000, math.MaxInt}

// noStrengths are numbers that are no strengths.
var noStrengths = []int{-1, most + 1, math.MinInt, math.MaxInt}

// rows returns rows with the strengths and the densities that follow one another.
func rows(l ...int) []api.Grade {
	var all []api.Grade
	for i := 0; i < len(l); i += 2 {
		all = append(all, api.Grade{Strength: l[i], Density: l[i+1]})
	}
	return all
}

// example is the table of the example of the document.
func example() []api.Grade {
	return rows(0, 99820, 5000, 93016, 10000, 78924)
}

// row returns a right table with n rows, all at strengths that are multiples of a step, but for the last one.
func row(n, step int) []api.Grade {
	l := make([]api.Grade, n)
	for i := range l {
		l[i] = api.Grade{Strength: i * step, Density: greatest - i}
	}
	l[n-1].Strength = most
	return l
}

// rightTables are tables that are right: with flat and steep parts, with the least and the greatest number of rows, and up to the limits.
func rightTables() [][]api.Grade {
	return [][]api.Grade{
		example(),
		rows(0, greatest, most, least),
		rows(0, least, most, least),
		rows(0, greatest, most, greatest),
		rows(0, 99820, 1, 99820, 2, 99819, 9999, 80000, most, 80000),
		rows(0, 99820, 1, 60000, most, least),
		rows(0, 99820, 9999, 60000, most, least),
		row(3, 5000),
		row(mostRows-1, 70),
		row(mostRows, 1),
		row(mostRows, 78),
	}
}

// wrong is a table with the index and the error of its first fault.
type wrong struct {
	l     []api.Grade
	index int
	e     api.Errno
}

// wrongTables are tables with faults of each kind, and with several ones.
func wrongTables() []wrong {
	all := []wrong{
		{nil, -1, api.ErrEmpty}, {rows(0, 99820), -1, api.ErrEmpty}, {rows(-1, 0), -1, api.ErrEmpty}, {rows(most, 99820), -1, api.ErrEmpty},
		{make([]api.Grade, mostRows+1), -1, api.ErrTooLarge}, {row(mostRows+1, 1), -1, api.ErrTooLarge},
		// A row that is not greater and not less dense, or that is out of range.
		{rows(0, 99820, 0, 99000, most, 78924), 1, api.ErrOrder},
		{rows(0, 99820, 0, 99900, most, 78924), 1, api.ErrOrder},
		{rows(0, 99820, 5000, 93016, 4999, 78924), 2, api.ErrOrder},
		{rows(0, 99820, 5000, 93016, most, 78924, most, 78924), 3, api.ErrOrder},
		{rows(0, 99820, 2000, 99900, 5000, 93016, most, 78924), 1, api.ErrConflict},
		{rows(0, 99820, 2000, 99821, 5000, 93016, most, 78924), 1, api.ErrConflict},
		{rows(0, 99820, 5000, 93016, most, 93017), 2, api.ErrConflict},
		{rows(0, 99820, -1, 99900, most, 78924), 1, api.ErrRange},
		{rows(5000, 99820, 4000, greatest+1, most, 78924), 1, api.ErrRange},
		{rows(0, 99820, 0, least-1, most, 78924), 1, api.ErrRange},
		// The first row with a fault decides.
		{rows(0, 99820, 2000, 99900, 1000, 93016, most+1, 0), 1, api.ErrConflict},
		{rows(0, 99820, 2000, 99000, 1000, 99900, most+1, 0), 2, api.ErrOrder},
		{rows(0, 99820, 2000, 99000, most+1, 0, 1, 1), 2, api.ErrRange},
		// The strengths of the ends come last.
		{rows(1, 99820, most, 78924), 0, api.ErrMismatch},
		{rows(1, 99820, 9999, 78924), 0, api.ErrMismatch},
		{rows(most-1, 99820, most, 78924), 0, api.ErrMismatch},
		{rows(0, 99820, 9999, 78924), 1, api.ErrMismatch},
		{rows(0, 99820, 1, 99000, 2, 78924), 2, api.ErrMismatch},
		{rows(1, 99820, 2000, 99900), 1, api.ErrConflict},
		{rows(1, 99820, 2000, 99000, 2000, 98000), 2, api.ErrOrder},
		{rows(1, 99820, 2000, 99000, 2001, 0), 2, api.ErrRange},
	}
	for _, n := range noStrengths {
		all = append(all, wrong{rows(n, 99820, most, 78924), 0, api.ErrRange}, wrong{rows(0, 99820, n, 78924), 1, api.ErrRange})
	}
	for _, n := range []int{least - 1, greatest + 1, 0, -1, math.MinInt, math.MaxInt} {
		all = append(all, wrong{rows(0, n, most, 78924), 0, api.ErrRange}, wrong{rows(0, 99820, most, n), 1, api.ErrRange})
	}
	last := row(mostRows, 1)
	last[mostRows-1].Strength = most - 1
	return append(all, wrong{last, mostRows - 1, api.ErrMismatch})
}

// P16.1: tables of all kinds, with their first fault, and its index.
func TestCheck(t *testing.T) {
	for _, l := range rightTables() {
		if i, e := density.Check(l); i != -1 || e != api.OK {
			t.Error(l, i, e)
		}
	}
	for _, x := range wrongTables() {
		before := slices.Clone(x.l)
		if i, e := density.Check(x.l); i != x.index || e != x.e {
			t.Error(x, i, e)
		}
		if !slices.Equal(x.l, before) {
			t.Error("changed", x)
		}
	}
}

// reference returns the first fault of a table by the definition.
func reference(l []api.Grade) (int, api.Errno) {
	if len(l) > mostRows {
		return -1, api.ErrTooLarge
	}
	if len(l) < 2 {
		return -1, api.ErrEmpty
	}
	before := api.Grade{Strength: -1, Density: greatest}
	for i, g := range l {
		if g.Strength < 0 || g.Strength > most || g.Density < least || g.Density > greatest {
			return i, api.ErrRange
		}
		if g.Strength <= before.Strength {
			return i, api.ErrOrder
		}
		if g.Density > before.Density {
			return i, api.ErrConflict
		}
		before = g
	}
	if l[0].Strength > 0 {
		return 0, api.ErrMismatch
	}
	if before.Strength < most {
		return len(l) - 1, api.ErrMismatch
	}
	return -1, api.OK
}

// P16.1: all lists of up to 4 rows with few numbers, against the definition.
func TestCheckSmall(t *testing.T) {
	var all []api.Grade
	for _, strength := range []int{-1, 0, 1, most, most + 1} {
		for _, d := range []int{least - 1, least, greatest} {
			all = append(all, api.Grade{Strength: strength, Density: d})
		}
	}
	var check func(l []api.Grade)
	check = func(l []api.Grade) {
		index, want := reference(l)
		if i, e := density.Check(l); i != index || e != want {
			t.Fatal(l, i, e)
		}
		if len(l) == 4 {
			return
		}
		for _, g := range all {
			check(append(slices.Clone(l), g))
		}
	}
	check(nil)
}

// P16.1: the example of the document.
func TestFindExamples(t *testing.T) {
	for strength, want := range map[int]int{0: 0, 1: 0, 4999: 0, 5000: 1, 5001: 1, 7000: 1, 9999: 1, 10000: 2} {
		if i, e := density.Find(example(), strength); i != want || e != api.OK {
			t.Error(strength, i, e)
		}
	}
}

// P16.1: all strengths in tables of all kinds, against the definition.
func TestFind(t *testing.T) {
	for _, l := range rightTables() {
		before := slices.Clone(l)
		want := 0
		for strength := range most + 1 {
			if want+1 < len(l) && l[want+1].Strength == strength {
				want++
			}
			if i, e := density.Find(l, strength); i != want || e != api.OK {
				t.Fatal(l, strength, i, e)
			}
		}
		for _, strength := range noStrengths {
			if i, e := density.Find(l, strength); i != 0 || e != api.ErrRange {
				t.Error(l, strength, i, e)
			}
		}
		if !slices.Equal(l, before) {
			t.Error("changed", l)
		}
	}
}

// P16.1 to P16.3: a table that is not right comes before everything else.
func TestWrongTables(t *testing.T) {
	for _, x := range wrongTables() {
		for _, n := range extremes {
			if i, e := density.Find(x.l, n); i != 0 || e != api.ErrArg {
				t.Error(x, n, i, e)
			}
			for _, m := range extremes {
				if l, e := density.Cut(x.l, n, m); len(l) != 0 || e != api.ErrArg {
					t.Error(x, n, m, l, e)
				}
			}
		}
		if text, e := density.Print(x.l); text != "" || e != api.ErrArg {
			t.Error(x, text, e)
		}
		for _, y := range append(rightTables(), x.l) {
			if l, e := density.Merge(x.l, y); len(l) != 0 || e != api.ErrArg {
				t.Error(x, y, l, e)
			}
			if l, e := density.Merge(y, x.l); len(l) != 0 || e != api.ErrArg {
				t.Error(x, y, l, e)
			}
		}
	}
}

// P16.2: rows between, at the same strengths, and at the ends.
func TestMergeExamples(t *testing.T) {
	for i, x := range []struct{ l, m, want []api.Grade }{
		{example(), example(), example()},
		{example(), rows(0, 99820, 2000, 97000, most, 78924), rows(0, 99820, 2000, 97000, 5000, 93016, most, 78924)},
		{rows(0, 99820, 2000, 97000, most, 78924), example(), rows(0, 99820, 2000, 97000, 5000, 93016, most, 78924)},
		{example(), rows(0, 99821, 5000, 93015, most, 78925), rows(0, 99821, 5000, 93015, most, 78925)},
		{example(), rows(0, greatest, most, least), rows(0, greatest, 5000, 93016, most, least)},
		{rows(0, greatest, most, least), example(), example()},
		{
			rows(0, 99820, 1, 99000, 3, 98000, 9998, 90000, most, 78924),
			rows(0, 99820, 2, 98500, 3, 97999, 9999, 89000, most, 88000),
			rows(0, 99820, 1, 99000, 2, 98500, 3, 97999, 9998, 90000, 9999, 89000, most, 88000),
		},
		// Equal densities do not contradict each other.
		{example(), rows(0, 99820, 2000, 93016, most, 78924), rows(0, 99820, 2000, 93016, 5000, 93016, most, 78924)},
	} {
		if got, e := density.Merge(x.l, x.m); !slices.Equal(got, x.want) || e != api.OK {
			t.Error(i, got, e)
		}
	}
}

// P16.2: results that are not right.
func TestMergeRefuses(t *testing.T) {
	even, odd := row(66, 2), row(66, 2)
	for i := 1; i < 65; i++ {
		odd[i].Strength--
	}
	// Both have their ends in common, so the result would have 130 rows.
	refused := func(l, m []api.Grade, want api.Errno) {
		t.Helper()
		if got, e := density.Merge(l, m); len(got) != 0 || e != want {
			t.Error(got, e)
		}
	}
	refused(even, odd, api.ErrTooLarge)
	refused(odd, even, api.ErrTooLarge)
	// Too many rows come before those that contradict each other.
	for i := range odd {
		odd[i].Density = least
	}
	refused(even, odd, api.ErrTooLarge)
	refused(example(), rows(0, 93015, most, 78924), api.ErrConflict)
	refused(example(), rows(0, 99820, most, 93017), api.ErrConflict)
	refused(example(), rows(0, 99820, 4999, 93015, most, 78924), api.ErrConflict)
	refused(example(), rows(0, 99820, 5001, 93017, most, 78924), api.ErrConflict)
	refused(row(mostRows, 1), rows(0, greatest, most-1, least, most, least), api.ErrTooLarge)
	if got, e := density.Merge(row(mostRows-1, 1), rows(0, greatest, most-1, least+1, most, least)); len(got) != mostRows || e != api.OK {
		t.Error(got, e)
	}
}

// merged returns the rows of two tables by the definition.
func merged(l, m []api.Grade) []api.Grade {
	at := map[int]int{}
	for _, g := range append(slices.Clone(l), m...) {
		at[g.Strength] = g.Density
	}
	var all []api.Grade
	for strength := range most + 1 {
		if d, found := at[strength]; found {
			all = append(all, api.Grade{Strength: strength, Density: d})
		}
	}
	return all
}

// P16.2 and P16.4: all pairs of tables, against the definition; the rows of the second one all stand in the result.
func TestMerge(t *testing.T) {
	for _, l := range rightTables() {
		for _, m := range rightTables() {
			first, second := slices.Clone(l), slices.Clone(m)
			want := merged(l, m)
			_, failed := reference(want)
			got, e := density.Merge(l, m)
			if e != failed || !slices.Equal(l, first) || !slices.Equal(m, second) {
				t.Error(l, m, got, e)
			}
			if e != api.OK {
				if len(got) != 0 {
					t.Error(l, m, got)
				}
				continue
			}
			if !slices.Equal(got, want) {
				t.Error(l, m, got)
			}
			for _, g := range m {
				if !slices.Contains(got, g) {
					t.Error(l, m, g)
				}
			}
			// A second time there is nothing new.
			if again, e := density.Merge(got, m); !slices.Equal(again, got) || e != api.OK {
				t.Error(l, m, again, e)
			}
		}
		if got, e := density.Merge(l, l); !slices.Equal(got, l) || e != api.OK {
			t.Error(l, got, e)
		}
	}
}

// P16.2: the rows from one strength to another one: all of them, some, one, none.
func TestCutExamples(t *testing.T) {
	for _, x := range []struct{ from, to, first, end int }{
		{0, most, 0, 3}, {0, 9999, 0, 2}, {1, most, 1, 3}, {1, 9999, 1, 2}, {5000, 5000, 1, 2}, {5000, most, 1, 3}, {0, 5000, 0, 2},
		{4999, 5001, 1, 2}, {5001, 9999, 2, 2}, {1, 4999, 1, 1}, {7000, 7000, 2, 2}, {0, 0, 0, 1}, {most, most, 2, 3}, {0, 4999, 0, 1},
	} {
		if got, e := density.Cut(example(), x.from, x.to); !slices.Equal(got, example()[x.first:x.end]) || e != api.OK {
			t.Error(x, got, e)
		}
	}
}

// P16.2: tables and strengths of all kinds, against the definition, and what is out of range.
func TestCut(t *testing.T) {
	near := []int{0, 1, 2, 69, 70, 71, 126, 127, 128, 4999, 5000, 5001, most - 1, most}
	for _, l := range rightTables() {
		before := slices.Clone(l)
		for _, from := range near {
			for _, to := range near {
				got, e := density.Cut(l, from, to)
				if from > to {
					if len(got) != 0 || e != api.ErrRange {
						t.Error(l, from, to, got, e)
					}
					continue
				}
				want := slices.DeleteFunc(slices.Clone(l), func(g api.Grade) bool { return g.Strength < from || g.Strength > to })
				if !slices.Equal(got, want) || e != api.OK {
					t.Error(l, from, to, got, e)
				}
			}
		}
		for _, n := range noStrengths {
			for _, m := range append(noStrengths, near...) {
				for _, x := range [][2]int{{n, m}, {m, n}} {
					if got, e := density.Cut(l, x[0], x[1]); len(got) != 0 || e != api.ErrRange {
						t.Error(l, x, got, e)
					}
				}
			}
		}
		if !slices.Equal(l, before) {
			t.Error("changed", l)
		}
	}
}

// P16.3 and P16.4: the texts of tables of all kinds, which are parsed to them.
func TestPrint(t *testing.T) {
	if text, e := density.Print(example()); text != "strength 0 density 99820\nstrength 5000 density 93016\nstrength 10000 density 78924\n" || e != api.OK {
		t.Error(text, e)
	}
	for _, l := range rightTables() {
		before := slices.Clone(l)
		var want strings.Builder
		for _, g := range l {
			want.WriteString("strength " + strconv.Itoa(g.Strength) + " density " + strconv.Itoa(g.Density) + "\n")
		}
		text, e := density.Print(l)
		if text != want.String() || e != api.OK || !slices.Equal(l, before) {
			t.Error(l, text, e)
		}
		if got, line, e := density.Parse(text); !slices.Equal(got, l) || line != -1 || e != api.OK {
			t.Error(text, got, line, e)
		}
	}
}

// refused checks that a text has no table.
func refused(t *testing.T, text string, line int, want api.Errno) {
	t.Helper()
	if got, n, e := density.Parse(text); len(got) != 0 || n != line || e != want {
		t.Errorf("%.99q %v %v %v", text, got, n, e)
	}
}

// P16.3: the first line that does not have the form, wherever it stands.
func TestParseFindsSyntax(t *testing.T) {
	for _, line := range []string{
		"\n", " \n", "strength\n", "strength 0\n", "strength 0 density\n", "strength 0 density \n", "strength  density 99820\n", "strength 0 99820\n", "0 density 99820\n", "density 99820\n",
		" strength 0 density 99820\n", "strength  0 density 99820\n", "strength 0  density 99820\n", "strength 0 density  99820\n", "strength 0 density 99820 \n", "strength 0 density 99820 1\n",
		"strength 0 density 99820 density 1\n", "strength\t0 density 99820\n", "strength 0\u00a0density 99820\n", "strength 0 density 99820\r\n", "strength 0 density 99820\r", "\rstrength 0 density 99820\n",
		"Strength 0 density 99820\n", "strength 0 Density 99820\n", "strengths 0 density 99820\n", "strengt 0 density 99820\n", "density 0 strength 99820\n", "strength 0 strength 99820\n", "density 0 density 99820\n",
		"strength 00 density 99820\n", "strength 01 density 99820\n", "strength 0 density 099820\n", "strength 0 density 00\n",
		"strength -1 density 99820\n", "strength -0 density 99820\n", "strength +0 density 99820\n", "strength +1 density 99820\n", "strength 0 density -99820\n", "strength 0 density +99820\n", "strength 0 density -0\n",
		"strength 1000000 density 99820\n", "strength 0 density 1000000\n", "strength 0 density 9223372036854775808\n", "strength 18446744073709551616 density 99820\n", "strength 0000000 density 99820\n",
		"strength a density 99820\n", "strength 0x1 density 99820\n", "strength 0 density 99_820\n", "strength 0 density 99820.0\n", "strength 1e1 density 99820\n", "strength / density 99820\n", "strength 0 density :\n",
		"strength \uff10 density 99820\n", "strength 0 density \u0663\n", "strength 0 density 99820\x00\n", "\x00\n", "strength 0 density 99820;strength 1 density 1\n",
	} {
		refused(t, line, 0, api.ErrSyntax)
		refused(t, line+"strength 10000 density 78924\n", 0, api.ErrSyntax)
		refused(t, "strength 0 density 99820\n"+line, 1, api.ErrSyntax)
		refused(t, "strength 0 density 99820\n"+line+"strength 10000 density 78924\n", 1, api.ErrSyntax)
		// Rows that are no table, and a second line that is none.
		refused(t, "strength 1 density 0\nstrength 0 density 999999\n"+line+"\n", 2, api.ErrSyntax)
	}
	refused(t, "strength 0 density 99820", 0, api.ErrSyntax)
	refused(t, "strength 0 density 99820\nstrength 10000 density 78924", 1, api.ErrSyntax)
	refused(t, "strength 0 density 99820\nstrength 10000 density 78924\n\n", 2, api.ErrSyntax)
	refused(t, "strength 0 density 99820\n\nstrength 10000 density 78924\n", 1, api.ErrSyntax)
	refused(t, strings.Repeat("strength 0 density 1\n", 1000)+"x\n", 1000, api.ErrSyntax)
}

// P16.3: texts that are too large, and rows that are no table: all errors of Check, with the line -1.
func TestParseRefuses(t *testing.T) {
	line := "strength 0 density 1234\n"
	longest := strings.Repeat(line, api.MaxData/len(line))
	longest += strings.Repeat("\n", api.MaxData-len(longest))
	refused(t, longest, api.MaxData/len(line), api.ErrSyntax)
	refused(t, longest+"\n", -1, api.ErrTooLarge)
	refused(t, strings.Repeat("\n", api.MaxData+1), -1, api.ErrTooLarge)
	refused(t, strings.Repeat("x", api.MaxData+1), -1, api.ErrTooLarge)
	refused(t, strings.Repeat("x", api.MaxData), 0, api.ErrSyntax)
	refused(t, strings.Repeat(line, mostRows+1), -1, api.ErrTooLarge)
	refused(t, strings.Repeat(line, mostRows), -1, api.ErrRange)
	refused(t, "", -1, api.ErrEmpty)
	refused(t, "strength 0 density 99820\n", -1, api.ErrEmpty)
	end := "strength 10000 density 78924\n"
	refused(t, "strength 0 density 999999\n"+end, -1, api.ErrRange)
	refused(t, "strength 999999 density 99820\n"+end, -1, api.ErrRange)
	refused(t, "strength 0 density 49999\n"+end, -1, api.ErrRange)
	refused(t, "strength 0 density 0\n"+end, -1, api.ErrRange)
	refused(t, "strength 0 density 99820\nstrength 0 density 99000\n"+end, -1, api.ErrOrder)
	refused(t, "strength 0 density 99820\nstrength 2000 density 99900\n"+end, -1, api.ErrConflict)
	refused(t, "strength 1 density 99820\n"+end, -1, api.ErrMismatch)
	refused(t, "strength 0 density 99820\nstrength 9999 density 78924\n", -1, api.ErrMismatch)
}

// form is the form of a line.
var form = regexp.MustCompile(`^strength (0|[1-9][0-9]{0,5}) density (0|[1-9][0-9]{0,5})\n$`)

// firstBad returns the number of the first line of a text that does not have the form, or -1.
func firstBad(text string) int {
	for i, line := range strings.SplitAfter(text, "\n") {
		if line != "" && !form.MatchString(line) {
			return i
		}
	}
	return -1
}

// P16.3 and P16.4: every byte of a text changed, put in or left out, against a regular expression; what is accepted is printed as it was.
func TestNoOtherText(t *testing.T) {
	text := "strength 0 density 99820\nstrength 500 density 93016\nstrength 10000 density 78924\n"
	check := func(changed string) {
		t.Helper()
		l, line, e := density.Parse(changed)
		if bad := firstBad(changed); bad >= 0 {
			if len(l) != 0 || line != bad || e != api.ErrSyntax {
				t.Errorf("%q %v %v %v", changed, l, line, e)
			}
			return
		}
		if line != -1 || e == api.ErrSyntax {
			t.Errorf("%q %v %v %v", changed, l, line, e)
		}
		if again, _ := density.Print(l); e == api.OK && again != changed {
			t.Errorf("%q %q", changed, again)
		}
	}
	for i := range len(text) + 1 {
		for b := range 256 {
			check(text[:i] + string([]byte{byte(b)}) + text[i:])
			if i < len(text) {
				check(text[:i] + string([]byte{byte(b)}) + text[i+1:])
			}
		}
		if i < len(text) {
			check(text[:i] + text[i+1:])
		}
		check(text[:i])
		check(text[i:])
	}
}

// Arguments are not changed, nor is what lies behind them in the same memory; results share no memory.
func TestArgumentsStay(t *testing.T) {
	l := append(example(), api.Grade{Strength: 7, Density: 7})[:3]
	m := append(rows(0, 99820, 2000, 97000, most, 78924), api.Grade{Strength: 8, Density: 8})[:3]
	density.Merge(l, m)
	for _, do := range []func() []api.Grade{
		func() []api.Grade { r, _ := density.Merge(l, m); return r },
		func() []api.Grade { r, _ := density.Merge(l, l); return r },
		func() []api.Grade { r, _ := density.Cut(l, 0, most); return r },
		func() []api.Grade { r, _ := density.Cut(l, 0, 5000); return r },
		func() []api.Grade {
			r, _, _ := density.Parse("strength 0 density 99820\nstrength 10000 density 78924\n")
			return r
		},
	} {
		got := do()
		want := slices.Clone(got)
		// What is written into a result, or behind it, is nowhere else.
		_ = append(got, api.Grade{Strength: 9, Density: 9})
		clear(got)
		if again := do(); !slices.Equal(again, want) {
			t.Error(again, want)
		}
	}
	density.Check(l)
	density.Find(l, 7000)
	density.Print(l)
	if !slices.Equal(l[:4], append(example(), api.Grade{Strength: 7, Density: 7})) {
		t.Error(l[:4])
	}
	if !slices.Equal(m[:4], rows(0, 99820, 2000, 97000, most, 78924, 8, 8)) {
		t.Error(m[:4])
	}
}

// P1: no function panics, for all arguments.
func TestNoPanic(t *testing.T) {
	for _, a := range extremes {
		for _, b := range extremes {
			for _, l := range [][]api.Grade{nil, rows(a, b), rows(0, 99820, a, b), rows(a, b, most, 78924), rows(0, a, most, b), example()} {
				density.Check(l)
				density.Find(l, a)
				density.Merge(l, example())
				density.Merge(example(), l)
				density.Cut(l, a, b)
				density.Print(l)
			}
			density.Parse("strength " + strconv.Itoa(a) + " density " + strconv.Itoa(b) + "\n")
		}
	}
}
