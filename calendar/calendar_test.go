package calendar_test

import (
	"math"
	"strings"
	"testing"
	"time"

	"spile/api"
	"spile/calendar"
)

const most = api.MaxDay

// outside are numbers that are no days.
var outside = []int{-1, most + 1, -most, 2 * most, math.MinInt, math.MaxInt}

// reference returns a day, by the calendar of Go's library.
func reference(day int) time.Time {
	return time.Date(1900, time.January, 1+day, 0, 0, 0, 0, time.UTC)
}

// days are days around which something happens: both ends, ends of months, of years and of centuries, and days of leap years.
func days() []int {
	var l []int
	for _, year := range []int{1900, 1901, 1903, 1904, 1999, 2000, 2001, 2004, 2099, 2100, 2101, 2104, 2171, 2172, 2173} {
		for month := time.January; month <= time.December; month++ {
			first := int(time.Date(year, month, 1, 0, 0, 0, 0, time.UTC).Sub(reference(0)) / (24 * time.Hour))
			for _, day := range []int{first - 3, first - 2, first - 1, first, first + 1, first + 14} {
				if day >= 0 && day <= most {
					l = append(l, day)
				}
			}
		}
	}
	return append(l, most)
}

// examples are dates of days: those of the document, leap years of all sorts, and both ends.
var examples = []struct {
	day, year, month, date, weekday int
	text                            string
}{
	{0, 1900, 1, 1, 1, "1900-01-01"},
	{58, 1900, 2, 28, 3, "1900-02-28"},
	{59, 1900, 3, 1, 4, "1900-03-01"},
	{364, 1900, 12, 31, 1, "1900-12-31"},
	{365, 1901, 1, 1, 2, "1901-01-01"},
	{36554, 2000, 1, 31, 1, "2000-01-31"},
	{36583, 2000, 2, 29, 2, "2000-02-29"},
	{36584, 2000, 3, 1, 3, "2000-03-01"},
	{36948, 2001, 2, 28, 3, "2001-02-28"},
	{73107, 2100, 2, 28, 7, "2100-02-28"},
	{73108, 2100, 3, 1, 1, "2100-03-01"},
	{most, 2173, 10, 16, 6, "2173-10-16"},
}

// P4.1 and P4.3: the examples of the document.
func TestExamples(t *testing.T) {
	for _, x := range examples {
		want := api.Date{Year: x.year, Month: x.month, Day: x.date}
		if d, e := calendar.Date(x.day); d != want || e != api.OK {
			t.Error("Date", x, d, e)
		}
		if day, e := calendar.Day(want); day != x.day || e != api.OK {
			t.Error("Day", x, day, e)
		}
		if w, e := calendar.Weekday(x.day); w != x.weekday || e != api.OK {
			t.Error("Weekday", x, w, e)
		}
		if s, e := calendar.Print(x.day); s != x.text || e != api.OK {
			t.Error("Print", x, s, e)
		}
		if day, e := calendar.Parse(x.text); day != x.day || e != api.OK {
			t.Error("Parse", x, day, e)
		}
	}
}

// P4.1, P4.3 and P4.4: all days, against Go's library; days, dates and texts belong to each other, and are ordered alike.
func TestAllDays(t *testing.T) {
	before := ""
	for day := range most + 1 {
		r := reference(day)
		want := api.Date{Year: r.Year(), Month: int(r.Month()), Day: r.Day()}
		d, e := calendar.Date(day)
		back, f := calendar.Day(d)
		if d != want || back != day || e != api.OK || f != api.OK {
			t.Fatal(day, d, back, e, f)
		}
		text, e := calendar.Print(day)
		back, f = calendar.Parse(text)
		if text != r.Format(time.DateOnly) || text <= before || back != day || e != api.OK || f != api.OK {
			t.Fatal(day, text, before, back, e, f)
		}
		before = text
		if w, e := calendar.Weekday(day); w != (int(r.Weekday())+6)%7+1 || e != api.OK {
			t.Fatal(day, w, e)
		}
	}
}

// P4.1 to P4.3: what is no day.
func TestNoDays(t *testing.T) {
	for _, day := range outside {
		if d, e := calendar.Date(day); d != (api.Date{}) || e != api.ErrRange {
			t.Error("Date", day, d, e)
		}
		if w, e := calendar.Weekday(day); w != 0 || e != api.ErrRange {
			t.Error("Weekday", day, w, e)
		}
		if s, e := calendar.Season(day); s != 0 || e != api.ErrRange {
			t.Error("Season", day, s, e)
		}
		if s, e := calendar.Print(day); s != "" || e != api.ErrRange {
			t.Error("Print", day, s, e)
		}
	}
}

// noDates are dates that are not right: beyond the months and their lengths, beyond both ends, and where a sum of days is that of another date, or wraps around.
var noDates = []api.Date{
	{},
	{Year: 1900, Month: 2, Day: 29}, {Year: 2100, Month: 2, Day: 29}, {Year: 2001, Month: 2, Day: 29}, {Year: 2000, Month: 2, Day: 30},
	{Year: 2000, Month: 0, Day: 1}, {Year: 2000, Month: 13, Day: 1}, {Year: 2000, Month: -1, Day: 1}, {Year: 2000, Month: 1, Day: 0}, {Year: 2000, Month: 3, Day: 0}, {Year: 2000, Month: 1, Day: -1},
	{Year: 1999, Month: 12, Day: 32}, {Year: 2000, Month: 1, Day: 60}, {Year: 2000, Month: 12, Day: 0},
	{Year: 1899, Month: 12, Day: 31}, {Year: 1899, Month: 12, Day: 32}, {Year: 1899, Month: 1, Day: 366}, {Year: 1896, Month: 2, Day: 29}, {Year: 1600, Month: 2, Day: 29}, {Year: 1900, Month: 1, Day: 0},
	{Year: 2173, Month: 10, Day: 17}, {Year: 2173, Month: 11, Day: 1}, {Year: 2174, Month: 1, Day: 1}, {Year: 2400, Month: 2, Day: 29}, {Year: 9999, Month: 12, Day: 31},
	{Year: 0, Month: 1, Day: 1}, {Year: -1, Month: 1, Day: 1}, {Year: -2000, Month: 1, Day: 1}, {Year: 0, Month: 1, Day: 693962}, {Year: 2000, Month: 1, Day: -36523}, {Year: 2500, Month: 1, Day: -219000},
	{Year: math.MinInt, Month: 1, Day: 1}, {Year: math.MaxInt, Month: 1, Day: 1}, {Year: math.MinInt, Month: 12, Day: math.MinInt}, {Year: math.MaxInt, Month: 12, Day: math.MaxInt},
	{Year: 2000, Month: math.MinInt, Day: 1}, {Year: 2000, Month: math.MaxInt, Day: 1}, {Year: 2000, Month: 1, Day: math.MinInt}, {Year: 2000, Month: 1, Day: math.MaxInt}, {Year: 2000, Month: 12, Day: math.MaxInt},
	{Year: 1 << 62, Month: 1, Day: 1}, {Year: 1<<62 + 1900, Month: 1, Day: 1}, {Year: -1 << 62, Month: 3, Day: 1},
}

// P4.1: what is no date of a day.
func TestNoDates(t *testing.T) {
	check := func(d api.Date) {
		t.Helper()
		if day, e := calendar.Day(d); day != 0 || e != api.ErrArg {
			t.Error(d, day, e)
		}
	}
	for _, d := range noDates {
		check(d)
	}
	for _, year := range []int{1900, 1999, 2000, 2004, 2100, 2172} {
		for month := range 12 {
			last := time.Date(year, time.Month(month+2), 0, 0, 0, 0, 0, time.UTC).Day()
			check(api.Date{Year: year, Month: month + 1, Day: last + 1})
			check(api.Date{Year: year, Month: month + 1, Day: 0})
			if _, e := calendar.Day(api.Date{Year: year, Month: month + 1, Day: last}); e != api.OK {
				t.Error(year, month, last, e)
			}
		}
	}
}

// P4.2: ends of months and of years, in both directions, and both ends of the calendar.
func TestLater(t *testing.T) {
	for _, x := range []struct {
		from   string
		months int
		to     string
	}{
		{"2000-01-31", 1, "2000-02-29"},
		{"2001-01-31", 1, "2001-02-28"},
		{"2000-01-30", 1, "2000-02-29"},
		{"2000-01-28", 1, "2000-02-28"},
		{"2000-02-29", 1, "2000-03-29"},
		{"2000-02-29", 12, "2001-02-28"},
		{"2000-02-29", 48, "2004-02-29"},
		{"2096-02-29", 48, "2100-02-28"},
		{"2000-02-29", -12, "1999-02-28"},
		{"2000-03-31", -1, "2000-02-29"},
		{"2000-05-31", 1, "2000-06-30"},
		{"2000-05-31", 2, "2000-07-31"},
		{"2000-12-31", 1, "2001-01-31"},
		{"2000-11-30", 1, "2000-12-30"},
		{"2000-11-30", 13, "2001-12-30"},
		{"2000-01-15", -1, "1999-12-15"},
		{"2000-01-15", -13, "1998-12-15"},
		{"2000-12-15", -12, "1999-12-15"},
		{"2000-06-15", 0, "2000-06-15"},
		{"1900-01-01", 0, "1900-01-01"},
		{"1900-02-01", -1, "1900-01-01"},
		{"1900-01-16", 3285, "2173-10-16"},
		{"2173-10-16", 0, "2173-10-16"},
		{"2173-10-16", -3285, "1900-01-16"},
		{"2173-09-16", 1, "2173-10-16"},
	} {
		from, e := calendar.Parse(x.from)
		to, f := calendar.Later(from, x.months)
		text, g := calendar.Print(to)
		if text != x.to || e != api.OK || f != api.OK || g != api.OK {
			t.Error(x, text, e, f, g)
		}
	}
}

// later counts months one by one, as the document defines it, and says whether it arrives at a day.
func later(day, months int) (int, bool) {
	r := reference(day)
	first := time.Date(r.Year(), r.Month(), 1, 0, 0, 0, 0, time.UTC).AddDate(0, months, 0)
	last := first.AddDate(0, 1, -1).Day()
	n := int(first.Sub(reference(0))/(24*time.Hour)) + min(r.Day(), last) - 1
	return n, n >= 0 && n <= most
}

// P4.2: many days and numbers of months, against Go's library.
func TestLaterByDefinition(t *testing.T) {
	for _, day := range days() {
		for months := -3600; months <= 3600; months += 7 {
			want, ok := later(day, months)
			got, e := calendar.Later(day, months)
			if ok && (got != want || e != api.OK) || !ok && (got != 0 || e != api.ErrLimit) {
				t.Fatal(day, months, got, e, want)
			}
		}
	}
}

// P4.2: what is out of range comes before what leads out of it.
func TestLaterRefuses(t *testing.T) {
	check := func(day, months int, want api.Errno) {
		t.Helper()
		if got, e := calendar.Later(day, months); got != 0 || e != want {
			t.Error(day, months, got, e)
		}
	}
	for _, day := range outside {
		check(day, 0, api.ErrRange)
		check(day, 1, api.ErrRange)
		check(day, 5000, api.ErrRange)
	}
	for _, months := range []int{-3601, 3601, math.MinInt, math.MaxInt, 1 << 62} {
		check(0, months, api.ErrRange)
		check(50000, months, api.ErrRange)
		check(most, months, api.ErrRange)
	}
	for _, x := range []struct{ day, months int }{
		{0, -1}, {30, -1}, {0, -3600}, {0, 3600}, {most, 1}, {most, 3600}, {most, -3600}, {most, -3286}, {0, 3286}, {16, 3285}, {50000, 3600}, {50000, -3600},
	} {
		check(x.day, x.months, api.ErrLimit)
	}
}

// P4.2: years that are full on the day, and a day before it.
func TestYears(t *testing.T) {
	for _, x := range []struct {
		from, to string
		want     int
	}{
		{"2000-02-29", "2001-02-27", 0},
		{"2000-02-29", "2001-02-28", 1},
		{"2000-02-29", "2004-02-28", 3},
		{"2000-02-29", "2004-02-29", 4},
		{"2001-02-28", "2004-02-28", 3},
		{"2001-03-01", "2004-02-29", 2},
		{"2001-03-01", "2004-03-01", 3},
		{"2000-06-15", "2000-06-15", 0},
		{"2000-06-15", "2000-12-31", 0},
		{"2000-12-31", "2001-01-01", 0},
		{"2000-12-31", "2001-12-30", 0},
		{"2000-12-31", "2001-12-31", 1},
		{"2000-06-15", "2012-06-14", 11},
		{"2000-06-15", "2012-06-15", 12},
		{"1900-01-01", "2173-10-16", 273},
		{"1900-10-16", "2173-10-16", 273},
		{"1900-10-17", "2173-10-16", 272},
		{"1900-12-31", "2173-10-16", 272},
		{"2173-10-16", "2173-10-16", 0},
	} {
		from, e := calendar.Parse(x.from)
		to, f := calendar.Parse(x.to)
		got, g := calendar.Years(from, to)
		if got != x.want || e != api.OK || f != api.OK || g != api.OK {
			t.Error(x, got, e, f, g)
		}
	}
}

// P4.2 and P4.4: the years from some days to all others, against their definition; they never become fewer.
func TestYearsByDefinition(t *testing.T) {
	for _, from := range []int{0, 1, 58, 59, 364, 1519, 36554, 36583, 36584, 73107, 73108, 99000, most} {
		n := 0
		for to := from; to <= most; to++ {
			for day, ok := later(from, 12*(n+1)); ok && day <= to; day, ok = later(from, 12*(n+1)) {
				n++
			}
			if got, e := calendar.Years(from, to); got != n || e != api.OK {
				t.Fatal(from, to, got, n, e)
			}
		}
	}
}

// P4.2: what is no day comes before the order of days.
func TestYearsRefuses(t *testing.T) {
	check := func(from, to int, want api.Errno) {
		t.Helper()
		if got, e := calendar.Years(from, to); got != 0 || e != want {
			t.Error(from, to, got, e)
		}
	}
	for _, day := range outside {
		check(day, 5, api.ErrRange)
		check(5, day, api.ErrRange)
		check(day, day, api.ErrRange)
		check(most, day, api.ErrRange)
	}
	check(1, 0, api.ErrOrder)
	check(most, most-1, api.ErrOrder)
	check(most, 0, api.ErrOrder)
	check(36948, 36583, api.ErrOrder)
}

// P4.2: the first and the last day of each month.
func TestSeason(t *testing.T) {
	want := [...]int{1, 1, 2, 2, 2, 3, 3, 3, 4, 4, 4, 1}
	for day := range most + 1 {
		if s, e := calendar.Season(day); s != want[reference(day).Month()-1] || e != api.OK {
			t.Fatal(day, s, e)
		}
	}
	for _, x := range []struct{ day, want int }{{0, 1}, {58, 1}, {59, 2}, {150, 2}, {151, 3}, {242, 3}, {243, 4}, {333, 4}, {334, 1}, {364, 1}} {
		if s, e := calendar.Season(x.day); s != x.want || e != api.OK {
			t.Error(x, s, e)
		}
	}
}

// P4.3: what does not have the form comes before what is no date.
func TestParseRefuses(t *testing.T) {
	check := func(text string, want api.Errno) {
		t.Helper()
		if day, e := calendar.Parse(text); day != 0 || e != want {
			t.Errorf("%q %d %d", text, day, e)
		}
	}
	for _, text := range []string{
		"", "2000", "2000-01", "2000-1-1", "2000-01-1", "2000-1-01", "200-01-01", "20000-01-01", "2000-01-011", "2000-01-01 ", " 2000-01-01", "2000-01-01\n", "2000-01-01\x00",
		"2000/01/01", "2000-01/01", "2000/01-01", "2000 01 01", "20000101", "2000010100", "2000-0101-", "-2000-01-01", "-200-01-01", "+200-01-01", "2000-+1-01", "2000-01-+1", "2000--1-01", "2000-01--1",
		"2000-0x-01", "20a0-01-01", "2000-01-0a", " 200-01-01", "2000- 1-01", "2000-01- 1", "2_00-01-01", "2000-13-4x", "2000-0:-01", "2000-01-0/", "/000-01-01", "200é-01-01", "２0-01-01", "20\xff0-01-01", "200\x00-01-01", "0000-0-000",
		strings.Repeat("2000-01-01", 1000), strings.Repeat("\xff", 10),
	} {
		check(text, api.ErrSyntax)
	}
	for _, text := range []string{
		"0000-00-00", "0000-01-01", "1899-12-31", "1900-01-00", "1900-02-29", "2000-00-01", "2000-13-01", "2000-02-30", "2000-04-31", "2001-02-29", "2100-02-29", "2173-10-17", "2174-01-01", "9999-99-99",
	} {
		check(text, api.ErrArg)
	}
}

// P4.4: a later day is never fewer months later, and twelve months later the weekday is one or two further, unless the month ends earlier.
func TestLaterProperties(t *testing.T) {
	for _, months := range []int{-25, -12, -1, 0, 1, 2, 12, 13, 120, 1199} {
		before := 0
		for day := 1000; day <= 60000; day++ {
			got, e := calendar.Later(day, months)
			if got < before || e != api.OK {
				t.Fatal(day, months, got, before, e)
			}
			before = got
		}
	}
	for day := range most - 366 {
		next, e := calendar.Later(day, 12)
		if e != api.OK {
			t.Fatal(day, e)
		}
		if reference(next).Day() != reference(day).Day() {
			continue
		}
		from, _ := calendar.Weekday(day)
		to, _ := calendar.Weekday(next)
		if further := (to - from + 7) % 7; further != 1 && further != 2 {
			t.Fatal(day, next, further)
		}
	}
}

// P1: no function panics, for all arguments.
func TestNoPanic(t *testing.T) {
	all := append([]int{0, 1, 2, 12, 13, 31, 3600, -3600, 2000, most}, outside...)
	for _, a := range all {
		calendar.Date(a)
		calendar.Weekday(a)
		calendar.Season(a)
		calendar.Print(a)
		for _, b := range all {
			calendar.Later(a, b)
			calendar.Years(a, b)
			for _, c := range all {
				calendar.Day(api.Date{Year: a, Month: b, Day: c})
			}
		}
	}
	for n := range 30 {
		for _, s := range []string{"-", "0", "9", "\xff", "é", "0-"} {
			calendar.Parse(strings.Repeat(s, n))
		}
	}
}
