package cask_test

import (
	"math"
	"regexp"
	"slices"
	"strconv"
	"strings"
	"testing"

	"spile/api"
	"spile/cask"
)

// points returns points with the X and the radii that follow one another.
func points(l ...int) []api.Point {
	var all []api.Point
	for i := 0; i < len(l); i += 2 {
		all = append(all, api.Point{X: l[i], Radius: l[i+1]})
	}
	return all
}

// barrel is the cask of the example of the document.
func barrel() api.Cask {
	return api.Cask{Name: "A-1", Position: api.Lying, Profile: points(0, 300, 500, 400, 1000, 300), Declared: 500}
}

// barrelText is the text of the cask of the example of the document.
const barrelText = "cask A-1 lying declared 500\nat 0 radius 300\nat 500 radius 400\nat 1000 radius 300\nend\n"

// vat is a cask that stands.
func vat() api.Cask {
	return api.Cask{Name: "b.2", Position: api.Standing, Profile: points(0, 5, 7, 3), Declared: 0}
}

// vatText is the text of the cask that stands.
const vatText = "cask b.2 standing declared 0\nat 0 radius 5\nat 7 radius 3\nend\n"

// with returns a barrel that was changed.
func with(change func(c *api.Cask)) api.Cask {
	c := barrel()
	change(&c)
	return c
}

// numbered returns so many casks, with names of their own.
func numbered(n int) []api.Cask {
	var l []api.Cask
	for i := range n {
		c := barrel()
		if i%2 == 1 {
			c = vat()
		}
		c.Name = strconv.Itoa(i)
		l = append(l, c)
	}
	return l
}

// longest returns a cask with a text as long as there is one.
func longest() api.Cask {
	c := api.Cask{Name: strings.Repeat("x", api.MaxName), Position: api.Standing, Declared: api.MaxVolume}
	for i := range api.MaxPoints {
		c.Profile = append(c.Profile, api.Point{X: i * api.MaxLength / (api.MaxPoints - 1), Radius: api.MaxLength})
	}
	return c
}

// rightOnes are casks without a fault.
func rightOnes() []api.Cask {
	return []api.Cask{
		barrel(), vat(), longest(),
		with(func(c *api.Cask) { c.Name = "-" }),
		with(func(c *api.Cask) { c.Name = "." }),
		with(func(c *api.Cask) { c.Name = "cask" }),
		with(func(c *api.Cask) { c.Name = "azAZ09-." }),
		with(func(c *api.Cask) { c.Name = strings.Repeat("-", api.MaxName) }),
		with(func(c *api.Cask) { c.Position = api.Standing }),
		with(func(c *api.Cask) { c.Declared = 0 }),
		with(func(c *api.Cask) { c.Declared = api.MaxVolume }),
		with(func(c *api.Cask) { c.Profile = points(0, 1, 1, 1) }),
		with(func(c *api.Cask) { c.Profile = points(0, api.MaxLength, api.MaxLength, api.MaxLength) }),
	}
}

// fault is a cask with its first fault.
type fault struct {
	c    api.Cask
	want api.Errno
}

// faulty are casks with faults, each one alone and before those that are named later.
func faulty() []fault {
	l := []fault{{api.Cask{}, api.ErrName}}
	add := func(want api.Errno, change func(c *api.Cask)) {
		l = append(l, fault{with(change), want})
	}
	for _, name := range []string{"", " ", "a b", "a\n", "\n", "a_b", "a/b", "a:b", "@", "[", "`", "{", ",", "ä", "\xff", "\x00", "x\x00", strings.Repeat("x", api.MaxName+1)} {
		add(api.ErrName, func(c *api.Cask) { c.Name = name })
		add(api.ErrName, func(c *api.Cask) { *c = api.Cask{Name: name, Position: 3, Declared: -1} })
	}
	for _, position := range []int{0, 3, -1, math.MinInt, math.MaxInt} {
		add(api.ErrRange, func(c *api.Cask) { c.Position = position })
		add(api.ErrRange, func(c *api.Cask) { c.Position, c.Profile = position, nil })
	}
	for _, declared := range []int{-1, api.MaxVolume + 1, math.MinInt, math.MaxInt} {
		add(api.ErrRange, func(c *api.Cask) { c.Declared = declared })
		add(api.ErrRange, func(c *api.Cask) { c.Declared, c.Profile = declared, points(1, 0, 0, 0) })
		add(api.ErrRange, func(c *api.Cask) { c.Declared, c.Position = declared, api.Standing })
	}
	add(api.ErrEmpty, func(c *api.Cask) { c.Profile = nil })
	add(api.ErrEmpty, func(c *api.Cask) { c.Profile = points(0, 5) })
	add(api.ErrTooLarge, func(c *api.Cask) { c.Profile = make([]api.Point, api.MaxPoints+1) })
	add(api.ErrRange, func(c *api.Cask) { c.Profile[1].Radius = api.MaxLength + 1 })
	add(api.ErrOrder, func(c *api.Cask) { c.Profile[0].X = 1 })
	add(api.ErrZero, func(c *api.Cask) { c.Profile[2].Radius = 0 })
	add(api.ErrMismatch, func(c *api.Cask) { c.Profile[1].Radius = 299 })
	return l
}

// faultyList is a list of casks with its first fault.
type faultyList struct {
	l    []api.Cask
	want api.Errno
}

// faultyLists are lists of casks with faults.
func faultyLists() []faultyList {
	many := numbered(api.MaxLots + 1)
	twins := numbered(api.MaxLots)
	twins[api.MaxLots-1].Name = "0"
	near := numbered(api.MaxLots)
	near[17].Name = "16"
	l := []faultyList{
		{many, api.ErrTooLarge},
		{make([]api.Cask, api.MaxLots+1), api.ErrTooLarge},
		{twins, api.ErrTwice},
		{near, api.ErrTwice},
		{[]api.Cask{barrel(), barrel()}, api.ErrTwice},
		{[]api.Cask{barrel(), vat(), with(func(c *api.Cask) { *c = vat(); c.Name = "A-1" })}, api.ErrTwice},
	}
	for _, x := range faulty() {
		l = append(l,
			faultyList{[]api.Cask{x.c}, x.want},
			faultyList{[]api.Cask{vat(), x.c}, x.want},
			// Two casks have one name, but one has a fault of its own.
			faultyList{[]api.Cask{vat(), vat(), x.c}, x.want},
			// The first cask with a fault decides, whatever fault it is.
			faultyList{[]api.Cask{vat(), x.c, {}}, x.want},
			faultyList{[]api.Cask{{}, x.c}, api.ErrName},
			faultyList{[]api.Cask{with(func(c *api.Cask) { c.Profile = nil }), x.c}, api.ErrEmpty},
		)
	}
	return l
}

// same reports whether two casks are equal.
func same(a, b api.Cask) bool {
	return a.Name == b.Name && a.Position == b.Position && a.Declared == b.Declared && slices.Equal(a.Profile, b.Profile)
}

// sameAll reports whether two lists of casks are equal.
func sameAll(a, b []api.Cask) bool {
	return slices.EqualFunc(a, b, same)
}

// cloned returns a copy of casks that shares nothing with them.
func cloned(l []api.Cask) []api.Cask {
	l = slices.Clone(l)
	for i := range l {
		l[i].Profile = slices.Clone(l[i].Profile)
	}
	return l
}

// P9.1: all faults of casks, each one alone and before those that are named later.
func TestCheck(t *testing.T) {
	for _, x := range faulty() {
		if got := cask.Check(x.c); got != x.want {
			t.Error(x, got)
		}
	}
	for _, c := range rightOnes() {
		if got := cask.Check(c); got != api.OK {
			t.Error(c, got)
		}
	}
}

// P9.1: each byte alone, and behind another one.
func TestNames(t *testing.T) {
	const allowed = "abcdefghijklmnopqrstuvwxyzABCDEFGHIJKLMNOPQRSTUVWXYZ0123456789-."
	for b := range 256 {
		want := api.ErrName
		if strings.IndexByte(allowed, byte(b)) >= 0 {
			want = api.OK
		}
		for _, name := range []string{string([]byte{byte(b)}), string([]byte{'x', byte(b)}), string([]byte{byte(b), '.'})} {
			c := with(func(c *api.Cask) { c.Name = name })
			if got := cask.Check(c); got != want {
				t.Errorf("%q %v", name, got)
			}
		}
	}
}

// P9.1: all faults of lists, each one alone and before those that are named later.
func TestList(t *testing.T) {
	for _, x := range faultyLists() {
		if got := cask.List(x.l); got != x.want {
			t.Error(x, got)
		}
	}
	for _, l := range [][]api.Cask{nil, {}, rightOnes()[:3], numbered(1), numbered(api.MaxLots)} {
		if got := cask.List(l); got != api.OK {
			t.Error(l, got)
		}
	}
	// Names are compared bytewise.
	if got := cask.List([]api.Cask{barrel(), with(func(c *api.Cask) { c.Name = "a-1" })}); got != api.OK {
		t.Error(got)
	}
}

// P9.1: the cask with a name, which shares nothing with the list; no cask; and a list with a fault.
func TestFind(t *testing.T) {
	all := numbered(api.MaxLots)
	before := cloned(all)
	for i, c := range before {
		got, e := cask.Find(all, strconv.Itoa(i))
		if !same(got, c) || e != api.OK {
			t.Error(i, got, e)
		}
		clear(got.Profile)
	}
	if !sameAll(all, before) {
		t.Error("changed", all)
	}
	for _, name := range []string{"", "A-1", "32", "00", "0 ", "\xff", strings.Repeat("0", api.MaxData+1)} {
		if got, e := cask.Find(all, name); !same(got, api.Cask{}) || e != api.ErrNotFound {
			t.Error(name, got, e)
		}
	}
	if got, e := cask.Find(nil, "A-1"); !same(got, api.Cask{}) || e != api.ErrNotFound {
		t.Error(got, e)
	}
	for _, x := range faultyLists() {
		for _, name := range []string{"A-1", "b.2", "nobody"} {
			if got, e := cask.Find(x.l, name); !same(got, api.Cask{}) || e != x.want {
				t.Error(x, got, e)
			}
		}
	}
}

// P9.1: the depth of casks that lie and that stand, and the first fault.
func TestDepth(t *testing.T) {
	for _, x := range []struct {
		profile         []api.Point
		lying, standing int
	}{
		{points(0, 300, 500, 400, 1000, 300), 800, 1000},
		{points(0, 5, 7, 3), 10, 7},
		{points(0, 3, 7, 5), 10, 7},
		{points(0, 3, 7, 5, 8, 5, 9, 1), 10, 9},
		{points(0, 1, 1, 1), 2, 1},
		{points(0, api.MaxLength, api.MaxLength, 1), 2 * api.MaxLength, api.MaxLength},
		{points(0, 1, 2, api.MaxLength, 3, 1), 2 * api.MaxLength, 3},
	} {
		for position, want := range map[int]int{api.Lying: x.lying, api.Standing: x.standing} {
			c := with(func(c *api.Cask) { c.Profile, c.Position = x.profile, position })
			if got, e := cask.Depth(c); got != want || e != api.OK {
				t.Error(c, got, e)
			}
		}
	}
	for _, x := range faulty() {
		if got, e := cask.Depth(x.c); got != 0 || e != x.want {
			t.Error(x, got, e)
		}
	}
}

// P9.2: the example of the document, other lists, and the first fault.
func TestPrint(t *testing.T) {
	for _, x := range []struct {
		l    []api.Cask
		want string
	}{
		{nil, ""},
		{[]api.Cask{}, ""},
		{[]api.Cask{barrel()}, barrelText},
		{[]api.Cask{vat()}, vatText},
		{[]api.Cask{barrel(), vat()}, barrelText + vatText},
		{[]api.Cask{vat(), barrel()}, vatText + barrelText},
	} {
		before := cloned(x.l)
		if got, e := cask.Print(x.l); got != x.want || e != api.OK || !sameAll(x.l, before) {
			t.Errorf("%v %q %v", x, got, e)
		}
	}
	for _, x := range faultyLists() {
		if got, e := cask.Print(x.l); got != "" || e != x.want {
			t.Error(x, got, e)
		}
	}
}

// P9.2 and P9.3: casks are restored from their text, and what is read is printed as it was.
func TestPrintAndParse(t *testing.T) {
	var most []api.Cask
	for i := range api.MaxLots {
		c := longest()
		c.Name = c.Name[2:] + strconv.Itoa(10+i)
		most = append(most, c)
	}
	lists := [][]api.Cask{nil, {barrel()}, {vat(), barrel()}, numbered(api.MaxLots), most}
	for _, c := range rightOnes() {
		lists = append(lists, []api.Cask{c})
	}
	for _, l := range lists {
		text, e := cask.Print(l)
		if e != api.OK || len(text) > api.MaxData {
			t.Fatal(l, len(text), e)
		}
		got, line, e := cask.Parse(text)
		if !sameAll(got, l) || line != 0 || e != api.OK {
			t.Errorf("%q %v %v %v", text, got, line, e)
		}
		again, e := cask.Print(got)
		if again != text || e != api.OK {
			t.Errorf("%q %q %v", text, again, e)
		}
		shared(t, got)
	}
}

// shared reports casks whose profiles share memory.
func shared(t *testing.T, l []api.Cask) {
	t.Helper()
	for i := range l {
		before := cloned(l)
		rest := l[i].Profile[:cap(l[i].Profile)]
		clear(rest)
		l[i].Profile = before[i].Profile
		if !sameAll(l, before) {
			t.Error("shared", before)
		}
	}
}

// P9.2: texts with the number of the first line that cannot stand where it is.
func TestParseLines(t *testing.T) {
	const head, point, end = "cask A lying declared 5\n", "at 0 radius 5\n", "end\n"
	for _, x := range []struct {
		text string
		line int
	}{
		{"\n", 1}, {" ", 1}, {"x", 1}, {"x\n", 1}, {"end\n", 1}, {"end", 1}, {point, 1}, {"\n" + barrelText, 1},
		{strings.TrimSuffix(head, "\n"), 1},
		{"cask  lying declared 5\n", 1},
		{"cask lying declared 5\n", 1},
		{"cask A B lying declared 5\n", 1},
		{"cask A  lying declared 5\n", 1},
		{" cask A lying declared 5\n", 1},
		{"cask A lying declared 5 \n", 1},
		{"cask A lying declared\n", 1},
		{"cask A lying declared \n", 1},
		{"cask A lying declared 5 ml\n", 1},
		{"cask A declared 5 lying\n", 1},
		{"cask A  declared 5\n", 1},
		{"cask A leaning declared 5\n", 1},
		{"cask A Lying declared 5\n", 1},
		{"cask A 1 declared 5\n", 1},
		{"Cask A lying declared 5\n", 1},
		{"vat A lying declared 5\n", 1},
		{"cask A lying declares 5\n", 1},
		{"cask A lying declared 05\n", 1},
		{"cask A lying declared 00\n", 1},
		{"cask A lying declared +5\n", 1},
		{"cask A lying declared -5\n", 1},
		{"cask A lying declared -0\n", 1},
		{"cask A lying declared 5.0\n", 1},
		{"cask A lying declared 0x5\n", 1},
		{"cask A lying declared 1_0\n", 1},
		{"cask A lying declared 1e1\n", 1},
		{"cask A lying declared ٣\n", 1},
		{"cask A lying declared x\n", 1},
		{"cask A lying declared 10000000000\n", 1},
		{"cask A lying declared 01234567890\n", 1},
		{"cask A lying declared 99999999999999999999999\n", 1},
		{"cask A\tlying declared 5\n", 1},
		{"cask A lying declared 5\r\n", 1},
		{"cask A lying\ndeclared 5\n", 1},
		{head, 2}, {head + point, 3}, {head + point + point, 4},
		{head + head, 2}, {head + "\n", 2}, {head + " ", 2}, {head + "end", 2}, {head + "ends\n", 2}, {head + "end \n", 2},
		{head + " end\n", 2}, {head + "end end\n", 2}, {head + "End\n", 2}, {head + point + "\n" + end, 3},
		{head + "at 0 radius\n" + end, 2},
		{head + "at 0 radius \n" + end, 2},
		{head + "at  radius 5\n" + end, 2},
		{head + "at radius 5\n" + end, 2},
		{head + "at 0 5\n" + end, 2},
		{head + "at 0 radius 5 6\n" + end, 2},
		{head + "at 0 radius  5\n" + end, 2},
		{head + "at 0 radius 5 \n" + end, 2},
		{head + "at 0 Radius 5\n" + end, 2},
		{head + "to 0 radius 5\n" + end, 2},
		{head + "at 00 radius 5\n" + end, 2},
		{head + "at 0 radius 05\n" + end, 2},
		{head + "at -1 radius 5\n" + end, 2},
		{head + "at 0 radius -5\n" + end, 2},
		{head + "at 10000000000 radius 5\n" + end, 2},
		{head + "at 0 radius 10000000000\n" + end, 2},
		{head + "at x radius 5\n" + end, 2},
		{head + "at 0 radius x\n" + end, 2},
		{head + "at 0 radius 5", 2},
		{head + point + "at 5 radius 5", 3},
		{head + point + "end", 3},
		{head + point + head, 3},
		{head + point + end + end, 4},
		{head + point + end + point, 4},
		{head + point + end + "\n", 4},
		{head + point + end + head, 5},
		{head + point + end + head + point, 6},
		{barrelText + vatText + " ", 10},
		{barrelText + vatText + "end\n", 10},
		{barrelText + vatText + head, 11},
		{strings.TrimSuffix(barrelText, "\n"), 5},
		{strings.TrimSuffix(barrelText, "end\n"), 5},
		{strings.TrimSuffix(barrelText+vatText, "end\n"), 9},
		// Syntax comes before all faults of the list.
		{strings.Repeat(head+end, api.MaxLots+1) + "x\n", 2*api.MaxLots + 3},
		{barrelText + barrelText + head, 12},
		{strings.Repeat("\n", api.MaxData), 1},
		{head + strings.Repeat(" ", api.MaxData-len(head)), 2},
	} {
		if got, line, e := cask.Parse(x.text); len(got) != 0 || line != x.line || e != api.ErrSyntax {
			t.Errorf("%.200q %v: %v %v %v", x.text, x.line, got, line, e)
		}
	}
}

// P9.2: texts that have their form, with the first fault of their list, and the line 0.
func TestParseFaults(t *testing.T) {
	const points = "at 0 radius 5\nat 1 radius 5\nend\n"
	header := func(name, declared string) string { return "cask " + name + " standing declared " + declared + "\n" }
	var many strings.Builder
	for i := range api.MaxLots + 1 {
		many.WriteString(header(strconv.Itoa(i), "5") + points)
	}
	for _, x := range []struct {
		text string
		want api.Errno
	}{
		{header("ä", "5") + points, api.ErrName},
		{header("\t", "5") + points, api.ErrName},
		{header("\r", "5") + points, api.ErrName},
		{header("\xff", "5") + points, api.ErrName},
		{header("\x00", "5") + points, api.ErrName},
		{header("\u00a0", "5") + points, api.ErrName},
		{header("\u2028", "5") + points, api.ErrName},
		{header("a_b", "9999999999") + "end\n", api.ErrName},
		{header(strings.Repeat("x", api.MaxName+1), "5") + points, api.ErrName},
		{header(strings.Repeat("x", api.MaxData-100), "5") + points, api.ErrName},
		{header("A", "1073741825") + points, api.ErrRange},
		{header("A", "9999999999") + points, api.ErrRange},
		{header("A", "1073741825") + "end\n", api.ErrRange},
		{header("A", "5") + "end\n", api.ErrEmpty},
		{header("A", "5") + "at 0 radius 5\nend\n", api.ErrEmpty},
		{header("A", "5") + strings.Repeat("at 0 radius 5\n", api.MaxPoints+1) + "end\n", api.ErrTooLarge},
		{header("A", "5") + strings.Repeat("at 0 radius 5\n", 4000) + "end\n", api.ErrTooLarge},
		{header("A", "5") + "at 0 radius 100001\n" + points, api.ErrRange},
		{header("A", "5") + "at 9999999999 radius 5\n" + points, api.ErrRange},
		{header("A", "5") + "at 0 radius 9999999999\n" + points, api.ErrRange},
		{header("A", "5") + "at 0 radius 5\n" + points, api.ErrOrder},
		{header("A", "5") + "at 1 radius 5\nat 2 radius 5\nend\n", api.ErrOrder},
		{header("A", "5") + "at 0 radius 0\nat 2 radius 5\nend\n", api.ErrZero},
		{header("A", "5") + "at 0 radius 5\nat 1 radius 4\nat 2 radius 5\nend\n", api.ErrMismatch},
		{header("A", "5") + points + header("A", "6") + points, api.ErrTwice},
		{header("A", "5") + points + header("A", "5") + "end\n", api.ErrEmpty},
		{header("A", "5") + "end\n" + header("_", "5") + points, api.ErrEmpty},
		{many.String(), api.ErrTooLarge},
		{strings.Repeat(header("_", "5")+"end\n", 2000), api.ErrTooLarge},
	} {
		if len(x.text) > api.MaxData {
			t.Fatal(len(x.text))
		}
		if got, line, e := cask.Parse(x.text); len(got) != 0 || line != 0 || e != x.want {
			t.Errorf("%.200q %v: %v %v %v", x.text, x.want, got, line, e)
		}
	}
	if got, line, e := cask.Parse(header("A", "1073741824") + points); len(got) != 1 || line != 0 || e != api.OK {
		t.Error(got, line, e)
	}
}

// P9.2: a text that is too long, whatever it contains.
func TestParseTooLarge(t *testing.T) {
	for _, text := range []string{
		strings.Repeat("\n", api.MaxData+1),
		strings.Repeat("x", api.MaxData+1),
		strings.Repeat(barrelText, api.MaxData/len(barrelText)+1),
		strings.Repeat("\xff", 1<<20),
	} {
		if got, line, e := cask.Parse(text); len(got) != 0 || line != 0 || e != api.ErrTooLarge {
			t.Error(len(text), got, line, e)
		}
	}
}

// forms are the three lines of the language.
type forms struct{ head, point, end *regexp.Regexp }

// theForms returns the three lines of the language.
func theForms() forms {
	return forms{
		head:  regexp.MustCompile(`^cask ([^ \n]+) (lying|standing) declared (0|[1-9][0-9]{0,9})\n$`),
		point: regexp.MustCompile(`^at (0|[1-9][0-9]{0,9}) radius (0|[1-9][0-9]{0,9})\n$`),
		end:   regexp.MustCompile(`^end\n$`),
	}
}

// parse reads a text by regular expressions.
func (f forms) parse(text string) ([]api.Cask, int, api.Errno) {
	var l []api.Cask
	lines := strings.SplitAfter(text, "\n")
	if lines[len(lines)-1] == "" {
		lines = lines[:len(lines)-1]
	}
	open := false
	for i, line := range lines {
		head, point := f.head.FindStringSubmatch(line), f.point.FindStringSubmatch(line)
		switch {
		case !open && head != nil:
			position := map[string]int{"lying": 1, "standing": 2}[head[2]]
			declared, _ := strconv.Atoi(head[3])
			l = append(l, api.Cask{Name: head[1], Position: position, Declared: declared})
			open = true
		case open && point != nil:
			x, _ := strconv.Atoi(point[1])
			radius, _ := strconv.Atoi(point[2])
			l[len(l)-1].Profile = append(l[len(l)-1].Profile, api.Point{X: x, Radius: radius})
		case open && f.end.MatchString(line):
			open = false
		default:
			return nil, i + 1, api.ErrSyntax
		}
	}
	if open {
		return nil, len(lines) + 1, api.ErrSyntax
	}
	if e := cask.List(l); e != api.OK {
		return nil, 0, e
	}
	return l, 0, api.OK
}

// P9.2 and P9.3: texts in which a byte was changed, put in, left out, or at which the text was cut, and what is there of them twice, against regular expressions.
func TestParseChanged(t *testing.T) {
	f := theForms()
	read := map[api.Errno]int{}
	check := func(text string) {
		t.Helper()
		want, place, fault := f.parse(text)
		got, line, e := cask.Parse(text)
		if !sameAll(got, want) || line != place || e != fault {
			t.Fatalf("%q: %v %v %v, not %v %v %v", text, got, line, e, want, place, fault)
		}
		read[e]++
		if e != api.OK {
			return
		}
		if again, e := cask.Print(got); again != text || e != api.OK {
			t.Fatalf("%q %q %v", text, again, e)
		}
	}
	all := vatText + barrelText
	for i := range len(all) + 1 {
		check(all[:i])
		check(all[i:])
		for j := i; j <= len(all); j++ {
			check(all[:i] + all[j:])
			if j < i+40 {
				check(all[:j] + all[i:])
			}
		}
		for b := range 256 {
			put := string([]byte{byte(b)})
			check(all[:i] + put + all[i:])
			if i < len(all) {
				check(all[:i] + put + all[i+1:])
			}
		}
	}
	for _, e := range []api.Errno{api.OK, api.ErrSyntax, api.ErrName, api.ErrRange, api.ErrOrder, api.ErrZero, api.ErrEmpty, api.ErrMismatch} {
		if read[e] == 0 {
			t.Error("never", e)
		}
	}
}

// P9.3: the text of two lists one behind the other is that of both together.
func TestTextsTogether(t *testing.T) {
	all := numbered(api.MaxLots)
	for i := range len(all) + 1 {
		first, _ := cask.Print(all[:i])
		second, _ := cask.Print(all[i:])
		both, e := cask.Print(all)
		if first+second != both || e != api.OK {
			t.Error(i)
		}
		got, line, e := cask.Parse(first + second)
		if !sameAll(got, all) || line != 0 || e != api.OK {
			t.Error(i, got, line, e)
		}
	}
}

// Arguments are not changed, nor is what lies behind them in the same memory.
func TestArgumentsStay(t *testing.T) {
	all := numbered(5)
	all[1].Profile = append(all[1].Profile, api.Point{X: 9, Radius: 9})[:2]
	before := cloned(all)
	behind := all[1].Profile[:3][2]
	cask.Check(all[1])
	cask.List(all[:2])
	cask.Find(all[:2], "1")
	cask.Depth(all[1])
	cask.Print(all[:2])
	if !sameAll(all, before) || all[1].Profile[:3][2] != behind {
		t.Error(all)
	}
}

// P1: no function panics, for all arguments.
func TestNoPanic(t *testing.T) {
	all := []int{math.MinInt, -1, 0, 1, 2, 3, api.MaxLength, api.MaxVolume, api.MaxVolume + 1, math.MaxInt}
	for _, a := range all {
		for _, b := range all {
			for _, x := range all {
				c := api.Cask{Name: "x", Position: a, Declared: b, Profile: points(0, a, b, x)}
				cask.Check(c)
				cask.Depth(c)
				l := []api.Cask{barrel(), c, c}
				cask.List(l)
				cask.Find(l, "x")
				cask.Print(l)
			}
		}
	}
	for _, text := range []string{"\x00", "\xff\n", "cask\n", "at\n", "cask    \n", "at   \n", "\n\n\n", strings.Repeat(" ", api.MaxData)} {
		cask.Parse(text)
	}
}
