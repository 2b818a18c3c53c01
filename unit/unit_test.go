package unit_test

import (
	"math"
	"math/big"
	"regexp"
	"slices"
	"strings"
	"testing"

	"spile/api"
	"spile/unit"
)

// kinds contains the least and the greatest amount of each kind, and its units with their factors, from the least one on.
var kinds = []struct {
	kind, low, high int
	names           []string
	factors         []int
}{
	{api.KindVolume, 0, api.MaxVolume, []string{"ml", "cl", "l", "hl"}, []int{1, 10, 1000, 100000}},
	{api.KindStrength, 0, api.MaxStrength, []string{"%"}, []int{100}},
	{api.KindAlcohol, 0, api.MaxAlcohol, []string{"mlpa", "lpa"}, []int{10000, 10000000}},
	{api.KindMass, 0, api.MaxMass, []string{"g", "kg"}, []int{100000, 100000000}},
	{api.KindHeat, api.MinHeat, api.MaxHeat, []string{"C"}, []int{10}},
	{api.KindLength, 0, api.MaxLength, []string{"mm", "cm", "m"}, []int{10, 100, 10000}},
	{api.KindMoney, 0, api.MaxMoney, []string{"coin", "crown"}, []int{1, 100}},
}

var noKinds = []int{0, 8, -1, 9, math.MinInt, math.MaxInt}

var noUnits = []string{"", " ", "gallon", "ML", "L", "c", "M", "CM", "Kg", "ml ", " ml", "m l", "l\x00", "coins", "crowns", "%%", "%vol", "lp", "lpal", "\xff", "é", strings.Repeat("l", 1000)}

// wrong are quantities that are not right.
var wrong = []api.Quantity{
	{}, {Kind: 0, Amount: 5}, {Kind: 8, Amount: 5}, {Kind: -1, Amount: 5},
	{Kind: api.KindVolume, Amount: -1}, {Kind: api.KindVolume, Amount: api.MaxVolume + 1},
	{Kind: api.KindHeat, Amount: api.MinHeat - 1}, {Kind: api.KindHeat, Amount: api.MaxHeat + 1},
	{Kind: api.KindMoney, Amount: math.MinInt}, {Kind: api.KindMoney, Amount: math.MaxInt},
}

func volume(n int) api.Quantity { return api.Quantity{Kind: api.KindVolume, Amount: n} }

func heat(n int) api.Quantity { return api.Quantity{Kind: api.KindHeat, Amount: n} }

func money(n int) api.Quantity { return api.Quantity{Kind: api.KindMoney, Amount: n} }

// amounts returns amounts of a range: all of a small one, and those around its ends and around powers of ten of a great one.
func amounts(low, high int) []int {
	var l []int
	if high-low <= api.MaxLength {
		for n := low; n <= high; n++ {
			l = append(l, n)
		}
		return l
	}
	for power := 1; power <= high; power *= 10 {
		for _, n := range []int{power - 1, power, power + 1, 2 * power, 12 * power, 987654321 % power, 1234567890123456 % power} {
			if n <= high {
				l = append(l, n)
			}
		}
	}
	return append(l, low, low+1, high/2, high-1, high)
}

// P3.1: both ends of each kind, and what is beyond them.
func TestCheck(t *testing.T) {
	for _, k := range kinds {
		for _, x := range []struct {
			amount int
			want   api.Errno
		}{
			{k.low, api.OK}, {k.high, api.OK}, {0, api.OK}, {(k.low + k.high) / 2, api.OK},
			{k.low - 1, api.ErrRange}, {k.high + 1, api.ErrRange},
			{math.MinInt, api.ErrRange}, {math.MaxInt, api.ErrRange},
		} {
			if e := unit.Check(api.Quantity{Kind: k.kind, Amount: x.amount}); e != x.want {
				t.Error(k.kind, x, e)
			}
		}
	}
	for _, kind := range noKinds {
		for _, amount := range []int{0, 5, -1, math.MinInt, math.MaxInt} {
			if e := unit.Check(api.Quantity{Kind: kind, Amount: amount}); e != api.ErrArg {
				t.Error(kind, amount, e)
			}
		}
	}
}

// P3.1: all units, and nothing else is one.
func TestUnit(t *testing.T) {
	for _, k := range kinds {
		for i, name := range k.names {
			if kind, factor, e := unit.Unit(name); kind != k.kind || factor != k.factors[i] || e != api.OK {
				t.Error(name, kind, factor, e)
			}
		}
	}
	for _, name := range noUnits {
		if kind, factor, e := unit.Unit(name); kind != 0 || factor != 0 || e != api.ErrName {
			t.Errorf("%q %d %d %d", name, kind, factor, e)
		}
	}
}

// texts are quantities with their texts: those of the document, negative ones, zeros on both sides of the point, and the greatest ones.
var texts = []struct {
	kind, amount int
	text         string
}{
	{api.KindVolume, 12345, "12345 ml"},
	{api.KindVolume, 12345, "1234.5 cl"},
	{api.KindVolume, 12345, "12.345 l"},
	{api.KindVolume, 12345, "0.12345 hl"},
	{api.KindVolume, 0, "0 ml"},
	{api.KindVolume, 0, "0 hl"},
	{api.KindVolume, 1, "0.00001 hl"},
	{api.KindVolume, 1500, "1.5 l"},
	{api.KindVolume, 1005, "1.005 l"},
	{api.KindVolume, 10000, "10 l"},
	{api.KindVolume, api.MaxVolume, "1073741824 ml"},
	{api.KindVolume, api.MaxVolume, "10737.41824 hl"},
	{api.KindStrength, 4000, "40 %"},
	{api.KindStrength, 4005, "40.05 %"},
	{api.KindStrength, 50, "0.5 %"},
	{api.KindStrength, 10000, "100 %"},
	{api.KindAlcohol, 10001, "1.0001 mlpa"},
	{api.KindAlcohol, 1, "0.0000001 lpa"},
	{api.KindAlcohol, api.MaxAlcohol, "1073741.824 lpa"},
	{api.KindMass, 94377000, "943.77 g"},
	{api.KindMass, 94377000, "0.94377 kg"},
	{api.KindMass, 1, "0.00000001 kg"},
	{api.KindMass, api.MaxMass, "1288490.1888 kg"},
	{api.KindHeat, -25, "-2.5 C"},
	{api.KindHeat, -1, "-0.1 C"},
	{api.KindHeat, -400, "-40 C"},
	{api.KindHeat, 600, "60 C"},
	{api.KindHeat, 200, "20 C"},
	{api.KindLength, 7, "0.7 mm"},
	{api.KindLength, 7, "0.0007 m"},
	{api.KindLength, 110, "1.1 cm"},
	{api.KindLength, 100000, "10 m"},
	{api.KindMoney, 5, "5 coin"},
	{api.KindMoney, 250, "2.5 crown"},
	{api.KindMoney, api.MaxMoney, "1125899906842624 coin"},
	{api.KindMoney, api.MaxMoney, "11258999068426.24 crown"},
}

// P3.2: texts are printed and read.
func TestPrintAndParse(t *testing.T) {
	for _, x := range texts {
		q := api.Quantity{Kind: x.kind, Amount: x.amount}
		_, name, _ := strings.Cut(x.text, " ")
		if s, e := unit.Print(q, name); s != x.text || e != api.OK {
			t.Errorf("%q %q %d", x.text, s, e)
		}
		if got, e := unit.Parse(x.text); got != q || e != api.OK {
			t.Error(x.text, got, e)
		}
	}
}

// decimal returns an amount divided by a factor, by numbers without a limit.
func decimal(amount, factor int) string {
	s := big.NewRat(int64(amount), int64(factor)).FloatString(10)
	return strings.TrimSuffix(strings.TrimRight(s, "0"), ".")
}

// P3.2 and P3.4: in each unit of its kind each quantity has its text, and is restored from it.
func TestEachUnit(t *testing.T) {
	for _, k := range kinds {
		for _, n := range amounts(k.low, k.high) {
			for i, name := range k.names {
				q := api.Quantity{Kind: k.kind, Amount: n}
				want := decimal(n, k.factors[i]) + " " + name
				s, e := unit.Print(q, name)
				if s != want || e != api.OK {
					t.Fatal(q, name, s, e)
				}
				if got, e := unit.Parse(s); got != q || e != api.OK {
					t.Fatal(q, s, got, e)
				}
			}
		}
	}
}

// P3.2: a wrong quantity comes first, then an unknown unit, then one of another kind.
func TestPrintRefuses(t *testing.T) {
	check := func(q api.Quantity, name string, want api.Errno) {
		t.Helper()
		if s, e := unit.Print(q, name); s != "" || e != want {
			t.Errorf("%d %q %q %d", q, name, s, e)
		}
	}
	for _, q := range wrong {
		check(q, "ml", api.ErrArg)
		check(q, "C", api.ErrArg)
		check(q, "coin", api.ErrArg)
		check(q, "gallon", api.ErrArg)
	}
	for _, name := range noUnits {
		check(volume(5), name, api.ErrName)
		check(heat(-5), name, api.ErrName)
	}
	for _, k := range kinds {
		for _, other := range kinds {
			for _, name := range other.names {
				if other.kind != k.kind {
					check(api.Quantity{Kind: k.kind, Amount: 100}, name, api.ErrMismatch)
				}
			}
		}
	}
}

// P3.2: what is no text of an amount in a unit.
func TestParseRefusesSyntax(t *testing.T) {
	for _, text := range []string{
		"", " ", "  ", "ml", " ml", "5", "5 ", "5ml", "5  ml", " 5 ml", "5 ml ", "5\tml", "5\nml", "5 ml\n", "5 ml l", "5 5 ml", "- 5 C",
		"007 ml", "00 ml", "01 ml", "00.5 l", "01.5 l", "1.50 l", "1.0 l", "0.0 l", "1. l", ".5 l", ". l", "1.2.3 l", "1..5 l", "1,5 l",
		"-0 C", "-0.0 C", "-0 ml", "--5 C", "-.5 C", "- C", "-05 C", "+5 C", "5- C", "1.-5 l", "-1.50 C", "−5 C",
		"1 gallon", "1 ML", "1 L", "1 c", "1.5 litre", "0.5 gallon", "5 %%", "5%", "5% ", "5 ml%",
		"1e3 ml", "0x1 ml", "1_000 ml", "٣ ml", "１ ml", "1\x00 ml", "\xff ml", "1\xff ml", "1 \xff", "five ml", "/ ml", ": ml", "1/ ml", "1: ml", "1.: l", "1./ l",
		strings.Repeat("x", api.MaxName), strings.Repeat(" ", api.MaxName),
	} {
		if q, e := unit.Parse(text); q != (api.Quantity{}) || e != api.ErrSyntax {
			t.Errorf("%q %d %d", text, q, e)
		}
	}
}

// P3.2: texts of amounts that are no integers, or out of range.
func TestParseRefusesRange(t *testing.T) {
	for _, text := range []string{
		"0.5 ml", "1.5 coin", "0.01 cl", "0.0001 l", "0.000001 hl", "40.001 %", "0.00001 mlpa", "0.00000001 lpa", "0.000001 g", "0.000000001 kg", "-0.01 C", "2.55 C", "0.01 mm", "0.001 cm", "0.00001 m", "0.001 crown", "1.05 cl",
		"1073741825 ml", "107374182.5 cl", "10737.41825 hl", "100.01 %", "101 %", "1073741824.0001 mlpa", "1073741.8240001 lpa", "1288490188.80001 g", "1288490.18880001 kg", "60.1 C", "-40.1 C", "-41 C", "10000.1 mm", "11 m", "1125899906842625 coin", "11258999068426.25 crown", "11258999068427 crown",
		"-1 ml", "-0.1 cl", "-1 %", "-0.0001 mlpa", "-1 g", "-1 mm", "-1 coin", "-0.01 crown", "-1125899906842625 coin",
	} {
		if q, e := unit.Parse(text); q != (api.Quantity{}) || e != api.ErrRange {
			t.Errorf("%q %d %d", text, q, e)
		}
	}
}

// P3.2: up to 20 digits in all are read, however great the number is, and not more.
func TestParseManyDigits(t *testing.T) {
	check := func(number, name string, want api.Errno) {
		t.Helper()
		if q, e := unit.Parse(number + " " + name); q != (api.Quantity{}) || e != want {
			t.Errorf("%q %q %d %d", number, name, q, e)
		}
	}
	for _, name := range []string{"ml", "hl", "%", "lpa", "kg", "C", "m", "coin", "crown"} {
		for _, digit := range []string{"1", "9"} {
			check(strings.Repeat(digit, 20), name, api.ErrRange)
			check("-"+strings.Repeat(digit, 20), name, api.ErrRange)
			check(strings.Repeat(digit, 21), name, api.ErrSyntax)
			for whole := 1; whole < 20; whole++ {
				number := strings.Repeat(digit, whole) + "." + strings.Repeat(digit, 20-whole)
				check(number, name, api.ErrRange)
				check("-"+number, name, api.ErrRange)
				check(number+digit, name, api.ErrSyntax)
				check(digit+number, name, api.ErrSyntax)
			}
		}
		check("0.0000000000000000001", name, api.ErrRange)
		check("0.00000000000000000001", name, api.ErrSyntax)
		// Numbers around 2^63 and 2^64, which would wrap around to small ones.
		for _, number := range []string{"9223372036854775808", "18446744073709551616", "18446744073709551617", "18446744073709551.617", "36893488147419103232", "92233720368547758080"} {
			check(number, name, api.ErrRange)
			check("-"+number, name, api.ErrRange)
		}
	}
}

// P3.2: a text that is too long is that first.
func TestParseRefusesLongTexts(t *testing.T) {
	for _, text := range []string{
		strings.Repeat("1", api.MaxName-2) + " ml",
		strings.Repeat("x", api.MaxName+1),
		"5 ml" + strings.Repeat(" ", api.MaxName-3),
		"0." + strings.Repeat("0", api.MaxName) + "1 ml",
		strings.Repeat("é", api.MaxName/2) + "x",
		strings.Repeat("1", 1000) + " coin",
	} {
		if q, e := unit.Parse(text); q != (api.Quantity{}) || e != api.ErrTooLarge {
			t.Errorf("%q %d %d", text, q, e)
		}
	}
}

// P3.2 and P3.4: of all short strings, those are read that have the form, and are printed as they were.
func TestParseAllShortTexts(t *testing.T) {
	form := regexp.MustCompile(`^-?(0|[1-9][0-9]*)(\.[0-9]*[1-9])?$`)
	read := 0
	var visit func(number string)
	visit = func(number string) {
		for _, name := range []string{"C", "l"} {
			q, e := unit.Parse(number + " " + name)
			if right := form.MatchString(number) && number != "-0"; right == (e == api.ErrSyntax) {
				t.Fatalf("%q %d", number, e)
			}
			if e == api.OK {
				read++
				if s, e := unit.Print(q, name); s != number+" "+name || e != api.OK {
					t.Fatalf("%q %q %d", number, s, e)
				}
			}
		}
		if len(number) < 6 {
			for _, c := range []string{"0", "1", "9", ".", "-", " "} {
				visit(number + c)
			}
		}
	}
	visit("")
	if read < 1000 {
		t.Fatal("only so many texts were read:", read)
	}
}

// P3.2: the best unit at each factor of its kind, and beside it.
func TestBest(t *testing.T) {
	for _, x := range []struct {
		kind, amount int
		want         string
	}{
		{api.KindVolume, 12345, "l"},
		{api.KindVolume, 0, "ml"}, {api.KindVolume, 1, "ml"}, {api.KindVolume, 9, "ml"},
		{api.KindVolume, 10, "cl"}, {api.KindVolume, 999, "cl"},
		{api.KindVolume, 1000, "l"}, {api.KindVolume, 99999, "l"},
		{api.KindVolume, 100000, "hl"}, {api.KindVolume, api.MaxVolume, "hl"},
		{api.KindStrength, 0, "%"}, {api.KindStrength, 99, "%"}, {api.KindStrength, 10000, "%"},
		{api.KindAlcohol, 0, "mlpa"}, {api.KindAlcohol, 1, "mlpa"}, {api.KindAlcohol, 9999999, "mlpa"}, {api.KindAlcohol, 10000000, "lpa"},
		{api.KindMass, 0, "g"}, {api.KindMass, 99999999, "g"}, {api.KindMass, 100000000, "kg"}, {api.KindMass, api.MaxMass, "kg"},
		{api.KindHeat, 0, "C"}, {api.KindHeat, -1, "C"}, {api.KindHeat, -400, "C"}, {api.KindHeat, 600, "C"},
		{api.KindLength, 0, "mm"}, {api.KindLength, 99, "mm"}, {api.KindLength, 100, "cm"}, {api.KindLength, 9999, "cm"}, {api.KindLength, 10000, "m"},
		{api.KindMoney, 0, "coin"}, {api.KindMoney, 99, "coin"}, {api.KindMoney, 100, "crown"}, {api.KindMoney, api.MaxMoney, "crown"},
	} {
		if got, e := unit.Best(api.Quantity{Kind: x.kind, Amount: x.amount}); got != x.want || e != api.OK {
			t.Error(x, got, e)
		}
	}
	for _, q := range wrong {
		if name, e := unit.Best(q); name != "" || e != api.ErrArg {
			t.Error(q, name, e)
		}
	}
}

// P3.4: in its best unit a quantity has an integer part that is not 0, if it has one in any unit, and it has none in a greater one.
func TestBestProperty(t *testing.T) {
	for _, k := range kinds {
		for _, n := range amounts(k.low, k.high) {
			q := api.Quantity{Kind: k.kind, Amount: n}
			name, e := unit.Best(q)
			s, f := unit.Print(q, name)
			if e != api.OK || f != api.OK {
				t.Fatal(q, name, e, f)
			}
			size, best := max(n, -n), slices.Index(k.names, name)
			if zero := strings.HasPrefix(strings.TrimPrefix(s, "-"), "0"); zero != (size < k.factors[0]) {
				t.Fatal(q, s)
			}
			if best+1 < len(k.factors) && k.factors[best+1] <= size {
				t.Fatal(q, name)
			}
		}
	}
	// The units stand in a map, and its order changes.
	for range 100 {
		if name, e := unit.Best(volume(12345)); name != "l" || e != api.OK {
			t.Fatal(name, e)
		}
	}
}

// P3.3: sums of one and of many quantities, up to the ends of the ranges.
func TestSum(t *testing.T) {
	for _, x := range []struct {
		l    []api.Quantity
		want api.Quantity
	}{
		{[]api.Quantity{volume(5)}, volume(5)},
		{[]api.Quantity{volume(0)}, volume(0)},
		{[]api.Quantity{volume(5), volume(7), volume(0)}, volume(12)},
		{[]api.Quantity{volume(api.MaxVolume), volume(0)}, volume(api.MaxVolume)},
		{[]api.Quantity{volume(api.MaxVolume - 1), volume(1)}, volume(api.MaxVolume)},
		{[]api.Quantity{heat(-400)}, heat(-400)},
		{[]api.Quantity{heat(600), heat(-400), heat(-400), heat(-200)}, heat(-400)},
		{[]api.Quantity{heat(-5), heat(5)}, heat(0)},
		{[]api.Quantity{money(api.MaxMoney / 2), money(api.MaxMoney / 2)}, money(api.MaxMoney)},
		{slices.Repeat([]api.Quantity{money(api.MaxMoney / api.MaxItems)}, api.MaxItems), money(api.MaxMoney)},
	} {
		before := slices.Clone(x.l)
		if got, e := unit.Sum(x.l); got != x.want || e != api.OK {
			t.Error(x, got, e)
		}
		if !slices.Equal(x.l, before) {
			t.Error("changed", x.l)
		}
	}
	for _, k := range kinds {
		q := api.Quantity{Kind: k.kind, Amount: k.high / 2}
		if got, e := unit.Sum([]api.Quantity{q, q}); got.Kind != k.kind || got.Amount != k.high/2*2 || e != api.OK {
			t.Error(k.kind, got, e)
		}
	}
}

// P3.4: the order of quantities does not matter for a sum.
func TestSumInAnyOrder(t *testing.T) {
	l := []api.Quantity{heat(100), heat(-150), heat(33), heat(-7)}
	var permute func(n int)
	permute = func(n int) {
		if got, e := unit.Sum(l); got != heat(-24) || e != api.OK {
			t.Fatal(l, got, e)
		}
		for i := n; i < len(l); i++ {
			l[n], l[i] = l[i], l[n]
			permute(n + 1)
			l[n], l[i] = l[i], l[n]
		}
	}
	permute(0)
}

// P3.3: too many come first, then none, wrong ones, different kinds, and sums out of range.
func TestSumRefuses(t *testing.T) {
	check := func(want api.Errno, l ...api.Quantity) {
		t.Helper()
		if got, e := unit.Sum(l); got != (api.Quantity{}) || e != want {
			t.Error(l, got, e)
		}
	}
	check(api.ErrTooLarge, slices.Repeat([]api.Quantity{volume(1)}, api.MaxItems+1)...)
	check(api.ErrTooLarge, make([]api.Quantity, api.MaxItems+1)...)
	check(api.ErrEmpty)
	for _, q := range wrong {
		check(api.ErrArg, q)
		check(api.ErrArg, q, volume(1))
		check(api.ErrArg, volume(1), q)
		check(api.ErrArg, volume(1), heat(1), q)
		check(api.ErrArg, volume(api.MaxVolume), volume(1), q)
	}
	check(api.ErrMismatch, volume(1), heat(1))
	check(api.ErrMismatch, volume(1), volume(1), heat(1), heat(1))
	check(api.ErrMismatch, volume(1), volume(1), heat(1), volume(1))
	check(api.ErrMismatch, volume(api.MaxVolume), volume(1), heat(1))
	check(api.ErrLimit, volume(api.MaxVolume), volume(1))
	check(api.ErrLimit, volume(1), volume(api.MaxVolume))
	check(api.ErrLimit, heat(600), heat(1))
	check(api.ErrLimit, heat(-400), heat(-1))
	// The first two are out of range, though all together are not.
	check(api.ErrLimit, heat(600), heat(1), heat(-1))
	check(api.ErrLimit, heat(-400), heat(-1), heat(100))
	for _, k := range kinds {
		check(api.ErrLimit, slices.Repeat([]api.Quantity{{Kind: k.kind, Amount: k.high}}, api.MaxItems)...)
	}
}

// P1: no function panics, for all arguments.
func TestNoPanic(t *testing.T) {
	names := append([]string{"ml", "C", "1 ml", "-1 C", "-", ".", "-.", "0.", "-0.", " C"}, noUnits...)
	for _, kind := range append([]int{1, 2, 3, 4, 5, 6, 7}, noKinds...) {
		for _, amount := range []int{math.MinInt, -1, 0, 1, api.MaxMass, math.MaxInt} {
			q := api.Quantity{Kind: kind, Amount: amount}
			unit.Check(q)
			unit.Best(q)
			unit.Sum([]api.Quantity{q, q})
			unit.Sum([]api.Quantity{volume(1), q})
			for _, name := range names {
				unit.Print(q, name)
			}
		}
	}
	for _, text := range names {
		unit.Unit(text)
		unit.Parse(text)
		unit.Parse(text + " C")
	}
}
