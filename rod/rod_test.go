package rod_test

import (
	"math"
	"math/big"
	"regexp"
	"slices"
	"strconv"
	"strings"
	"testing"

	"spile/api"
	"spile/dip"
	"spile/rod"
)

const (
	mostHeight = 2 * api.MaxLength
	mostVolume = 4 * api.MaxVolume
	mostMarks  = api.MaxMarks
)

// extremes are numbers at and beyond all limits.
var extremes = []int{math.MinInt, -1, 0, 1, 2, 9, 100, 127, 128, 129, mostHeight, mostHeight + 1, api.MaxVolume, api.MaxVolume + 1, mostVolume, mostVolume + 1, math.MaxInt}

// marks returns marks with the heights and the volumes that follow one another.
func marks(l ...int) []api.Mark {
	var all []api.Mark
	for i := 0; i < len(l); i += 2 {
		all = append(all, api.Mark{Height: l[i], Volume: l[i+1]})
	}
	return all
}

// table returns a table with the heights and the volumes that follow one another.
func table(l ...int) api.Table {
	return api.Table{Marks: marks(l...)}
}

// row returns n marks, each one a height and a volume above the one before, from the height and the volume 1 on.
func row(n int) []api.Mark {
	var l []api.Mark
	for i := range n {
		l = append(l, api.Mark{Height: i + 1, Volume: i + 1})
	}
	return l
}

// example is the table of the example of the document.
func example() api.Table {
	return table(0, 0, 10, 100, 20, 100)
}

// rightTables are tables that are right: with flat and steep parts, not from 0 on, and up to the limits.
func rightTables() []api.Table {
	return []api.Table{
		example(),
		table(0, 0, 10, 100, 20, 250),
		table(0, 0, 10, 95),
		table(0, 0, 1, 0),
		table(0, 7, 1, 9),
		table(0, 0, 7, 3),
		table(0, 0, 3, 7),
		table(3, 4, 5, 4, 12, 9, 13, 30, 14, 30, 15, 30, 31, 33),
		table(11, 100, 40, 100),
		table(8, 0, 9, 0, 10, 1, 11, 1, 12, 2, 20, 2, 30, 3),
		table(0, 0, 150, mostVolume),
		table(mostHeight-90, mostVolume-13, mostHeight, mostVolume),
		table(0, 0, 17, 1, 34, 3, 51, 6, 68, 10, 85, 15, 102, 21),
		{Marks: row(mostMarks), Tolerance: 5},
	}
}

// wrongTables are tables with an error of each kind.
func wrongTables() []api.Table {
	return []api.Table{
		{}, table(0, 0), {Marks: row(mostMarks + 1)},
		{Marks: row(5), Tolerance: -1}, {Marks: row(5), Tolerance: mostVolume + 1},
		table(-1, 0, 10, 100), table(0, 0, mostHeight+1, 100), table(0, -1, 10, 100), table(0, 0, 10, mostVolume+1),
		table(0, 0, 0, 100), table(10, 0, 0, 100), table(0, 5, 10, 4),
	}
}

// rightRods are rods that are right: of one mark, with the most of them, and up to the limits.
func rightRods() [][]api.Mark {
	return [][]api.Mark{
		marks(3, 30, 6, 60, 9, 90),
		marks(0, 1),
		marks(0, 1, 1, 2),
		marks(5, mostVolume),
		marks(mostHeight, mostVolume),
		marks(0, 7, 3, 8, 4, 100, 90, 101),
		marks(mostHeight-1, mostVolume-1, mostHeight, mostVolume),
		row(mostMarks),
	}
}

// wrongRods are lists of marks with their first errors.
func wrongRods() map[api.Errno][][]api.Mark {
	return map[api.Errno][][]api.Mark{
		api.ErrEmpty:    {nil, {}},
		api.ErrTooLarge: {row(mostMarks + 1), make([]api.Mark, mostMarks+1), slices.Repeat(marks(-1, -1), mostMarks+1)},
		api.ErrRange: {
			marks(0, 0), marks(-1, 1), marks(mostHeight+1, 1), marks(1, mostVolume+1), marks(1, -1), make([]api.Mark, mostMarks),
			marks(math.MinInt, 1), marks(1, math.MinInt), marks(math.MaxInt, 1), marks(1, math.MaxInt),
			marks(5, 5, 5, 5, 6, 0), marks(5, 5, 4, 6, mostHeight+1, 7), marks(1, 1, 2, 2, 3, mostVolume+1), marks(-1, 1, 0, 2),
		},
		api.ErrOrder: {
			marks(1, 1, 1, 2), marks(1, 1, 2, 1), marks(1, 1, 1, 1), marks(2, 1, 1, 2), marks(1, 2, 2, 1), marks(2, 2, 1, 1),
			marks(1, 1, 2, 2, 2, 3), marks(1, 1, 2, 2, 3, 2), marks(1, 1, 3, 2, 2, 3), marks(1, 1, 2, 3, 3, 2), slices.Repeat(marks(1, 1), mostMarks),
		},
	}
}

// volumes returns the volume at each height of a right table, by the definition of layer 13.
func volumes(t api.Table) map[int]int {
	all := map[int]int{}
	for i, b := range t.Marks[1:] {
		a := t.Marks[i]
		for h := a.Height; h <= b.Height; h++ {
			rise := new(big.Int).Mul(big.NewInt(int64(b.Volume-a.Volume)), big.NewInt(int64(h-a.Height)))
			all[h] = a.Volume + int(rise.Div(rise, big.NewInt(int64(b.Height-a.Height))).Int64())
		}
	}
	return all
}

// reference returns the rod of a right table by the definition, or more marks than it may have.
func reference(t api.Table, step int) []api.Mark {
	at := volumes(t)
	h := t.Marks[0].Height
	var l []api.Mark
	for v := step; v <= t.Marks[len(t.Marks)-1].Volume && len(l) <= mostMarks; v += step {
		for at[h] < v {
			h++
		}
		if n := len(l); n > 0 && l[n-1].Height == h {
			l[n-1].Volume = v
			continue
		}
		l = append(l, api.Mark{Height: h, Volume: v})
	}
	return l
}

// P14.1: the example of the document, multiples with one height, and tables that do not begin with nothing.
func TestMakeExamples(t *testing.T) {
	for i, x := range []struct {
		l    api.Table
		step int
		want []api.Mark
	}{
		{example(), 30, marks(3, 30, 6, 60, 9, 90)},
		{example(), 100, marks(10, 100)},
		{example(), 99, marks(10, 99)},
		{example(), 50, marks(5, 50, 10, 100)},
		{example(), 51, marks(6, 51)},
		{example(), 4, marks(1, 8, 2, 20, 3, 28, 4, 40, 5, 48, 6, 60, 7, 68, 8, 80, 9, 88, 10, 100)},
		{example(), 1, marks(1, 10, 2, 20, 3, 30, 4, 40, 5, 50, 6, 60, 7, 70, 8, 80, 9, 90, 10, 100)},
		{table(0, 0, 10, 95), 30, marks(4, 30, 7, 60, 10, 90)},
		{table(5, 100, 15, 200), 30, marks(5, 90, 7, 120, 10, 150, 13, 180)},
		{table(5, 100, 15, 200), 100, marks(5, 100, 15, 200)},
		{table(5, 100, 15, 200), 101, marks(6, 101)},
		{table(5, 100, 15, 100), 7, marks(5, 98)},
		{table(0, 0, 4, 0, 8, 3), 1, marks(6, 1, 7, 2, 8, 3)},
		{table(0, 0, 1, mostVolume), 1, marks(1, mostVolume)},
		{table(0, 0, 1, mostVolume), api.MaxVolume, marks(1, mostVolume)},
		{table(0, 0, 2, mostVolume-1), api.MaxVolume, marks(1, api.MaxVolume, 2, 3*api.MaxVolume)},
		{table(0, 0, mostHeight, mostVolume), api.MaxVolume, marks(50000, api.MaxVolume, 100000, 2*api.MaxVolume, 150000, 3*api.MaxVolume, mostHeight, mostVolume)},
		{table(0, 0, mostHeight, mostMarks), 1, reference(table(0, 0, mostHeight, mostMarks), 1)},
	} {
		if got, e := rod.Make(x.l, x.step); !slices.Equal(got, x.want) || e != api.OK {
			t.Error(i, got, e)
		}
	}
}

// P14.1: tables and steps of all kinds, against the definition.
func TestMake(t *testing.T) {
	for _, l := range rightTables() {
		last := l.Marks[len(l.Marks)-1].Volume
		for _, step := range []int{1, 2, 3, 4, 5, 7, 10, 29, 30, 49, 90, 100, 101, 249, 250, 251, 1 << 20, 1<<25 + 3, 1<<25 + 1<<22, 1 << 28, api.MaxVolume} {
			if last/step > 5000 {
				continue
			}
			want, fault := reference(l, step), api.OK
			switch {
			case len(want) == 0:
				fault = api.ErrEmpty
			case len(want) > mostMarks:
				want, fault = nil, api.ErrTooLarge
			}
			got, e := rod.Make(l, step)
			if !slices.Equal(got, want) || e != fault {
				t.Fatal(l, step, got, e)
			}
			if e == api.OK && rod.Check(got) != api.OK {
				t.Fatal(l, step, got, rod.Check(got))
			}
		}
	}
}

// P14.1: the errors of Make, in their order; as many marks as there can be.
func TestMakeRefuses(t *testing.T) {
	check := func(l api.Table, step int, want api.Errno) {
		t.Helper()
		if got, e := rod.Make(l, step); len(got) != 0 || e != want {
			t.Error(l, step, got, e)
		}
	}
	for _, l := range wrongTables() {
		for _, step := range extremes {
			check(l, step, api.ErrArg)
		}
	}
	for _, l := range rightTables() {
		for _, step := range []int{0, -1, api.MaxVolume + 1, math.MinInt, math.MaxInt} {
			check(l, step, api.ErrRange)
		}
	}
	for _, step := range []int{101, 102, 1000, api.MaxVolume} {
		check(example(), step, api.ErrEmpty)
	}
	check(table(0, 0, 1, 0), 1, api.ErrEmpty)
	check(table(0, 0, mostHeight, mostVolume), 1, api.ErrTooLarge)
	check(table(0, 0, mostMarks+1, mostMarks+1), 1, api.ErrTooLarge)
	check(table(0, 0, 1000, 1290), 10, api.ErrTooLarge)
	check(table(0, 5, mostMarks, 500), 1, api.ErrTooLarge)
	for _, x := range []struct {
		l    api.Table
		step int
	}{{table(0, 0, mostMarks, mostMarks), 1}, {table(0, 0, 1000, 1289), 10}, {table(0, 5, mostMarks-1, 500), 1}} {
		if got, e := rod.Make(x.l, x.step); len(got) != mostMarks || e != api.OK {
			t.Error(x, got, e)
		}
	}
}

// P14.1: the first error of rods of all kinds, and that of Print; Reading and Compare refuse what is not right.
func TestCheck(t *testing.T) {
	for want, several := range wrongRods() {
		for i, l := range several {
			before := slices.Clone(l)
			if got := rod.Check(l); got != want {
				t.Error(want, i, got)
			}
			if got, e := rod.Print(l); got != "" || e != want {
				t.Error(want, i, got, e)
			}
			for _, n := range extremes {
				if got, e := rod.Reading(l, n); got != (api.Bounds{}) || e != api.ErrArg {
					t.Error(want, i, n, got, e)
				}
				if got, e := rod.Compare(l, example(), n); got != -1 || e != api.ErrArg {
					t.Error(want, i, n, got, e)
				}
			}
			if !slices.Equal(l, before) {
				t.Error("changed", want, i)
			}
		}
	}
	for i, l := range rightRods() {
		if got := rod.Check(l); got != api.OK {
			t.Error(i, got)
		}
	}
}

// P14.1: all rods of two small marks, against the definition.
func TestCheckSmall(t *testing.T) {
	for a := -1; a <= 2; a++ {
		for b := -1; b <= 2; b++ {
			for c := -1; c <= 2; c++ {
				for d := -1; d <= 2; d++ {
					want := api.OK
					if a < 0 || b < 1 || c < 0 || d < 1 {
						want = api.ErrRange
					} else if a >= c || b >= d {
						want = api.ErrOrder
					}
					if got := rod.Check(marks(a, b, c, d)); got != want {
						t.Error(a, b, c, d, got)
					}
				}
			}
		}
	}
}

// P14.1: the example of the document: at, below and above each mark.
func TestReadingExamples(t *testing.T) {
	l := marks(3, 30, 6, 60, 9, 90)
	for _, x := range [][3]int{{0, 0, 29}, {1, 0, 29}, {2, 0, 29}, {3, 30, 59}, {5, 30, 59}, {6, 60, 89}, {7, 60, 89}, {8, 60, 89}, {9, 90, 90}} {
		if got, e := rod.Reading(l, x[0]); got != (api.Bounds{Low: x[1], High: x[2]}) || e != api.OK {
			t.Error(x, got, e)
		}
	}
	for i, x := range []struct {
		l              []api.Mark
		wet, low, high int
	}{
		{marks(0, 1), 0, 1, 1},
		{marks(1, 1), 0, 0, 0},
		{marks(1, 1), 1, 1, 1},
		{marks(0, 5, 2, 7), 0, 5, 6},
		{marks(0, 5, 2, 7), 1, 5, 6},
		{marks(0, 5, 2, 7), 2, 7, 7},
		{marks(mostHeight, mostVolume), mostHeight - 1, 0, mostVolume - 1},
		{marks(mostHeight, mostVolume), mostHeight, mostVolume, mostVolume},
	} {
		if got, e := rod.Reading(x.l, x.wet); got != (api.Bounds{Low: x.low, High: x.high}) || e != api.OK {
			t.Error(i, got, e)
		}
	}
}

// P14.1: all heights of rods of all kinds, against the definition, and what is out of range.
func TestReading(t *testing.T) {
	for _, l := range rightRods() {
		before := slices.Clone(l)
		last := l[len(l)-1]
		for wet := 0; wet <= last.Height; wet += 1 + last.Height/5000 {
			want := api.Bounds{}
			for _, m := range l {
				if m.Height <= wet {
					want = api.Bounds{Low: m.Volume, High: m.Volume}
				} else {
					want.High = m.Volume - 1
					break
				}
			}
			if got, e := rod.Reading(l, wet); got != want || e != api.OK {
				t.Fatal(l, wet, got, e)
			}
		}
		for _, wet := range []int{-1, last.Height + 1, math.MinInt, math.MaxInt} {
			if got, e := rod.Reading(l, wet); got != (api.Bounds{}) || e != api.ErrRange {
				t.Error(l, wet, got, e)
			}
		}
		if !slices.Equal(l, before) {
			t.Error("changed", l)
		}
	}
}

// P14.2: marks that agree and that do not, above and below; heights beyond the table; the first one counts.
func TestCompare(t *testing.T) {
	for i, x := range []struct {
		l         []api.Mark
		t         api.Table
		tolerance int
		want      int
	}{
		{marks(3, 30, 6, 60, 9, 90), example(), 0, -1},
		{marks(3, 30, 6, 60, 9, 91), example(), 0, 2},
		{marks(3, 30, 6, 60, 9, 91), example(), 1, -1},
		{marks(3, 30, 6, 60, 9, 89), example(), 0, 2},
		{marks(3, 30, 6, 60, 9, 89), example(), 1, -1},
		{marks(3, 25, 6, 66, 9, 90), example(), 4, 0},
		{marks(3, 25, 6, 66, 9, 90), example(), 5, 1},
		{marks(3, 25, 6, 66, 9, 90), example(), 6, -1},
		{marks(3, 35, 6, 54, 9, 90), example(), 4, 0},
		{marks(3, 35, 6, 54, 9, 90), example(), 5, 1},
		{marks(3, 35, 6, 54, 9, 90), example(), 6, -1},
		{marks(20, 100), example(), 0, -1},
		{marks(21, 100), example(), 0, 0},
		{marks(21, 100), example(), api.MaxVolume, 0},
		{marks(19, 99, 20, 100, 21, 101), example(), 1, 2},
		{marks(0, 1), example(), 0, 0},
		{marks(0, 1), example(), 1, -1},
		{marks(4, 100), table(5, 100, 9, 200), 0, 0},
		{marks(5, 100, 9, 200), table(5, 100, 9, 200), 0, -1},
		{marks(5, 100, 10, 200), table(5, 100, 9, 200), api.MaxVolume, 1},
		// The volume at 4 is 38.
		{marks(4, 30, 7, 60, 10, 90), table(0, 0, 10, 95), 7, 0},
		{marks(4, 30, 7, 60, 10, 90), table(0, 0, 10, 95), 8, -1},
		{marks(0, mostVolume), table(0, 0, 1, mostVolume), api.MaxVolume, 0},
		{marks(0, api.MaxVolume), table(0, 0, 1, mostVolume), api.MaxVolume, -1},
		{marks(0, api.MaxVolume+1), table(0, 0, 1, mostVolume), api.MaxVolume, 0},
		{marks(1, 3*api.MaxVolume), table(0, 0, 1, mostVolume), api.MaxVolume, -1},
		{marks(1, 3*api.MaxVolume-1), table(0, 0, 1, mostVolume), api.MaxVolume, 0},
	} {
		if got, e := rod.Compare(x.l, x.t, x.tolerance); got != x.want || e != api.OK {
			t.Error(i, got, e)
		}
	}
}

// P14.2: rods and tables of all kinds, against the definition.
func TestCompareAll(t *testing.T) {
	for _, l := range rightRods() {
		for _, x := range rightTables() {
			at := volumes(x)
			for _, tolerance := range []int{0, 1, 5, 60, 1000000, api.MaxVolume} {
				want := slices.IndexFunc(l, func(m api.Mark) bool {
					volume, found := at[m.Height]
					return !found || volume > m.Volume+tolerance || volume < m.Volume-tolerance
				})
				if got, e := rod.Compare(l, x, tolerance); got != want || e != api.OK {
					t.Error(l, x, tolerance, got, e)
				}
			}
		}
	}
}

// P14.2: a table that is not right, then a tolerance that is out of range.
func TestCompareRefuses(t *testing.T) {
	for _, l := range rightRods() {
		for _, x := range wrongTables() {
			for _, tolerance := range extremes {
				if got, e := rod.Compare(l, x, tolerance); got != -1 || e != api.ErrArg {
					t.Error(l, x, tolerance, got, e)
				}
			}
		}
		for _, tolerance := range []int{-1, api.MaxVolume + 1, math.MinInt, math.MaxInt} {
			if got, e := rod.Compare(l, example(), tolerance); got != -1 || e != api.ErrRange {
				t.Error(l, tolerance, got, e)
			}
		}
	}
}

// P14.2 and P14.3: the text of a rod, which is read again, and parsed to it.
func TestPrint(t *testing.T) {
	for i, x := range []struct {
		l    []api.Mark
		want string
	}{
		{marks(3, 30, 6, 60, 9, 90), "3 30\n6 60\n9 90\n"},
		{marks(0, 1), "0 1\n"},
		{marks(mostHeight, mostVolume), "200000 4294967296\n"},
	} {
		if got, e := rod.Print(x.l); got != x.want || e != api.OK {
			t.Error(i, got, e)
		}
	}
	long := make([]api.Mark, mostMarks)
	for i := range long {
		long[i] = api.Mark{Height: mostHeight - mostMarks + i, Volume: mostVolume - mostMarks + i}
	}
	for _, l := range append(rightRods(), long) {
		before := slices.Clone(l)
		var want strings.Builder
		for _, m := range l {
			want.WriteString(strconv.Itoa(m.Height) + " " + strconv.Itoa(m.Volume) + "\n")
		}
		text, e := rod.Print(l)
		if text != want.String() || e != api.OK || !slices.Equal(l, before) {
			t.Error(l, text, e)
		}
		if got, line, e := rod.Parse(text); !slices.Equal(got, l) || line != 0 || e != api.OK {
			t.Error(text, got, line, e)
		}
	}
}

// refused checks that a text has no rod.
func refused(t *testing.T, text string, line int, want api.Errno) {
	t.Helper()
	if got, n, e := rod.Parse(text); len(got) != 0 || n != line || e != want {
		t.Errorf("%q %v %v %v", text, got, n, e)
	}
}

// P14.2: the first line that is none, wherever it stands.
func TestParseFindsSyntax(t *testing.T) {
	for _, line := range []string{
		"\n", " \n", "3\n", "3 \n", " 3\n", "3  30\n", " 3 30\n", "3 30 \n", "3 30 1\n", "3 30 1 4\n", "3\t30\n", "3,30\n", "330\n", "\r\n", "3 30\r\n",
		"03 30\n", "3 030\n", "00 30\n", "3 00\n", "-3 30\n", "3 -30\n", "+3 30\n", "3 +30\n", "-0 30\n", "3 -0\n",
		"a 30\n", "3 b\n", "3 3o\n", "0x3 30\n", "3 0x30\n", "3_0 30\n", "3 3_0\n", "3.0 30\n", "3 30.\n", "1e1 30\n", "3/ 30\n", "3: 30\n", "3 /\n", "3 :\n",
		"12345678901 30\n", "3 12345678901\n", "00000000003 30\n", "3 99999999999999999999\n", "99999999999999999999999 30\n", "\x00 30\n", "3 30\x00\n", "\uff13 30\n", "3 \u0663\n", "3\u00a030\n",
	} {
		refused(t, line, 1, api.ErrSyntax)
		refused(t, "0 1\n"+line+"9 90\n", 2, api.ErrSyntax)
		refused(t, "0 1\n1 2\n"+line, 3, api.ErrSyntax)
		// Two lines that are none, and marks that are no rod.
		refused(t, "5 5\n5 0\n"+line+line, 3, api.ErrSyntax)
		refused(t, "5 5\n4 0\n9999999999 1\n"+line+"3", 4, api.ErrSyntax)
	}
	refused(t, "3", 1, api.ErrSyntax)
	refused(t, "3 30", 1, api.ErrSyntax)
	refused(t, "3 30\r", 1, api.ErrSyntax)
	refused(t, "3 30\n6 60", 2, api.ErrSyntax)
	refused(t, "3 30\n6 60\n9", 3, api.ErrSyntax)
	refused(t, "3 30\n\n6 60\n", 2, api.ErrSyntax)
	refused(t, "3 30\n6 60\n\n", 3, api.ErrSyntax)
	refused(t, strings.Repeat("1 1\n", 1000)+"x\n", 1001, api.ErrSyntax)
}

// P14.2: texts that are too large, and lines that are no rod.
func TestParseRefuses(t *testing.T) {
	refused(t, strings.Repeat("1 1\n", api.MaxText/4)+"\n", 0, api.ErrTooLarge)
	refused(t, strings.Repeat("x", api.MaxText+1), 0, api.ErrTooLarge)
	refused(t, strings.Repeat("x", api.MaxText), 1, api.ErrSyntax)
	refused(t, strings.Repeat("1 1\n", api.MaxText/4), 0, api.ErrTooLarge)
	refused(t, strings.Repeat("1 1\n", mostMarks+1), 0, api.ErrTooLarge)
	refused(t, strings.Repeat("1 1\n", mostMarks), 0, api.ErrOrder)
	refused(t, "", 0, api.ErrEmpty)
	for _, text := range []string{"3 0\n", "0 0\n", "200001 1\n", "1 4294967297\n", "9999999999 1\n", "1 9999999999\n", "5 5\n4 4\n1 0\n"} {
		refused(t, text, 0, api.ErrRange)
	}
	for _, text := range []string{"3 30\n3 31\n", "3 30\n4 30\n", "3 30\n2 31\n", "3 30\n4 29\n", "3 30\n3 30\n"} {
		refused(t, text, 0, api.ErrOrder)
	}
	if got, line, e := rod.Parse("0 1\n200000 4294967296\n"); !slices.Equal(got, marks(0, 1, mostHeight, mostVolume)) || line != 0 || e != api.OK {
		t.Error(got, line, e)
	}
}

// form is the form of a line.
var form = regexp.MustCompile(`^(0|[1-9][0-9]{0,9}) (0|[1-9][0-9]{0,9})\n$`)

// firstBad returns the number of the first line of a text that is none, or 0.
func firstBad(text string) int {
	for i, line := range strings.SplitAfter(text, "\n") {
		if line != "" && !form.MatchString(line) {
			return i + 1
		}
	}
	return 0
}

// P14.2 and P14.3: every byte of a text changed, put in or left out, against a regular expression; what is accepted is printed as it was.
func TestNoOtherText(t *testing.T) {
	text := "0 1\n30 300\n600 9999\n"
	check := func(changed string) {
		t.Helper()
		l, line, e := rod.Parse(changed)
		if bad := firstBad(changed); bad > 0 {
			if len(l) != 0 || line != bad || e != api.ErrSyntax {
				t.Errorf("%q %v %v %v", changed, l, line, e)
			}
			return
		}
		if line != 0 || e == api.ErrSyntax {
			t.Errorf("%q %v %v %v", changed, l, line, e)
		}
		if again, _ := rod.Print(l); e == api.OK && again != changed {
			t.Errorf("%q %q", changed, again)
		}
	}
	for i := range len(text) + 1 {
		for b := range 256 {
			check(text[:i] + string([]byte{byte(b)}) + text[i:])
			if i < len(text) {
				check(text[:i] + string([]byte{byte(b)}) + text[i+1:])
			}
		}
		if i < len(text) {
			check(text[:i] + text[i+1:])
		}
		check(text[:i])
		check(text[i:])
	}
}

// made returns rods of right tables, with their tables and steps.
func made(t *testing.T, do func(l api.Table, step int, marks []api.Mark)) {
	t.Helper()
	for _, l := range rightTables() {
		for _, step := range []int{1, 2, 3, 10, 30, 100, 1 << 26, 1 << 28} {
			if marks, e := rod.Make(l, step); e == api.OK {
				do(l, step, marks)
			}
		}
	}
}

// P14.3: the volume at each mark of a made rod is at least its Volume, a multiple of the step, and below its Height it is less.
func TestMarksAreReached(t *testing.T) {
	made(t, func(l api.Table, step int, marks []api.Mark) {
		for _, m := range marks {
			at, e := dip.Read(l, m.Height)
			if e != api.OK || at < m.Volume || at >= m.Volume+step || m.Volume%step != 0 {
				t.Error(l, step, m, at, e)
			}
			if below, e := dip.Read(l, m.Height-1); e == api.OK && below >= m.Volume {
				t.Error(l, step, m, below)
			}
		}
		if i, e := rod.Compare(marks, l, step-1); i != -1 || e != api.OK {
			t.Error(l, step, i, e)
		}
	})
}

// P14.3: any volume of the table at a height below the last mark lies within the reading there; at the last mark it is at least the reading.
func TestVolumesLieWithinReadings(t *testing.T) {
	made(t, func(l api.Table, step int, marks []api.Mark) {
		last := marks[len(marks)-1]
		for h := l.Marks[0].Height; h <= last.Height; h++ {
			at, _ := dip.Read(l, h)
			b, e := rod.Reading(marks, h)
			if e != api.OK || at < b.Low || at > b.High && h < last.Height {
				t.Fatal(l, step, h, at, b, e)
			}
		}
	})
}

// P14.3: the marks of a rod with a multiple of the step have heights of the finer one's.
func TestMultiplesOfSteps(t *testing.T) {
	made(t, func(l api.Table, step int, fine []api.Mark) {
		for _, times := range []int{2, 3, 7} {
			if step*times > api.MaxVolume {
				continue
			}
			coarse, e := rod.Make(l, step*times)
			if e != api.OK && e != api.ErrEmpty {
				t.Error(l, step, times, e)
			}
			for _, m := range coarse {
				i := slices.IndexFunc(fine, func(f api.Mark) bool { return f.Height == m.Height })
				if i < 0 || fine[i].Volume < m.Volume {
					t.Error(l, step, times, m, fine)
				}
			}
		}
	})
}

// Arguments are not changed, nor is what lies behind them in the same memory; results share no memory.
func TestArgumentsStay(t *testing.T) {
	l := api.Table{Marks: append(example().Marks, api.Mark{Height: 7, Volume: 7})[:3]}
	got, _ := rod.Make(l, 30)
	rod.Reading(got, 5)
	rod.Compare(got, l, 5)
	clear(got)
	if again, _ := rod.Make(l, 30); !slices.Equal(again, marks(3, 30, 6, 60, 9, 90)) {
		t.Error(again)
	}
	if !slices.Equal(l.Marks[:4], marks(0, 0, 10, 100, 20, 100, 7, 7)) {
		t.Error(l.Marks[:4])
	}
	read, _, _ := rod.Parse("3 30\n")
	clear(read)
	if again, _, _ := rod.Parse("3 30\n"); !slices.Equal(again, marks(3, 30)) {
		t.Error(again)
	}
}

// P1: no function panics, for all arguments.
func TestNoPanic(t *testing.T) {
	for _, a := range extremes {
		for _, b := range extremes {
			for _, l := range [][]api.Mark{nil, marks(a, b), marks(0, 1, a, b), marks(a, b, b, a)} {
				rod.Check(l)
				rod.Print(l)
				rod.Reading(l, a)
				for _, c := range extremes {
					rod.Make(table(0, 0, a, b), c)
					rod.Compare(l, table(0, 0, a, b), c)
					rod.Compare(l, example(), c)
				}
			}
			rod.Parse(strconv.Itoa(a) + " " + strconv.Itoa(b) + "\n")
		}
	}
}
