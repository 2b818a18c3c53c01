package root_test

import (
	"math"
	"math/big"
	"testing"

	"spile/api"
	"spile/root"
)

const (
	most      = 1 << 50
	mostFold  = 1 << 40
	mostTimes = 1000
)

// reference returns the root of a number, rounded down and up, by Go's library.
func reference(n *big.Int) api.Bounds {
	down := new(big.Int).Sqrt(n)
	b := api.Bounds{Low: int(down.Int64()), High: int(down.Int64())}
	if new(big.Int).Mul(down, down).Cmp(n) != 0 {
		b.High++
	}
	return b
}

// numbers are small numbers, neighbours of squares, and numbers at both ends.
func numbers() []int {
	var l []int
	for n := range 3000 {
		l = append(l, n)
	}
	for r := 50; r <= 1<<25; r += r/40 + 1 {
		l = append(l, r*r-1, r*r, r*r+1, r*r+r, r*r+r+1)
	}
	for bits := range 51 {
		l = append(l, 1<<bits-1, 1<<bits, min(1<<bits+1, most))
	}
	const greatest = 1 << 25
	return append(l, (greatest-1)*(greatest-1)-1, (greatest-1)*(greatest-1), (greatest-1)*(greatest-1)+1, most-1, most)
}

// P6.1: the examples of the document, and both ends.
func TestExamples(t *testing.T) {
	for _, x := range []struct {
		n, down, up int
		square      bool
	}{
		{10, 3, 4, false},
		{16, 4, 4, true},
		{0, 0, 0, true},
		{1, 1, 1, true},
		{2, 1, 2, false},
		{3, 1, 2, false},
		{4, 2, 2, true},
		{15, 3, 4, false},
		{17, 4, 5, false},
		{most, 1 << 25, 1 << 25, true},
		{most - 1, 1<<25 - 1, 1 << 25, false},
	} {
		if got, e := root.Down(x.n); got != x.down || e != api.OK {
			t.Error("Down", x, got, e)
		}
		if got, e := root.Up(x.n); got != x.up || e != api.OK {
			t.Error("Up", x, got, e)
		}
		if got := root.Square(x.n); got != x.square {
			t.Error("Square", x, got)
		}
	}
}

// P6.1 and P6.3: many numbers, against Go's library; the squares of the roots are on both sides.
func TestRoots(t *testing.T) {
	for _, n := range numbers() {
		if n > most {
			continue
		}
		want := reference(big.NewInt(int64(n)))
		down, e := root.Down(n)
		up, f := root.Up(n)
		if down != want.Low || up != want.High || e != api.OK || f != api.OK {
			t.Fatal(n, down, up, e, f)
		}
		if down*down > n || up*up < n || up-down > 1 || root.Square(n) != (up == down) {
			t.Fatal(n, down, up, root.Square(n))
		}
	}
}

// P6.1: what is no number from 0 to 2^50.
func TestRootsRefuse(t *testing.T) {
	for _, n := range []int{-1, -4, most + 1, 1 << 52, 1 << 60, 1 << 62, -most, math.MinInt, math.MaxInt} {
		if got, e := root.Down(n); got != 0 || e != api.ErrRange {
			t.Error("Down", n, got, e)
		}
		if got, e := root.Up(n); got != 0 || e != api.ErrRange {
			t.Error("Up", n, got, e)
		}
		if root.Square(n) {
			t.Error("Square", n)
		}
	}
}

// P6.2: the examples of the document, the centre, the edge of the circle, and beyond it.
func TestHalfAndChord(t *testing.T) {
	for _, x := range []struct{ r, y, low, high int }{
		{5, 3, 4, 4},
		{5, -3, 4, 4},
		{5, 4, 3, 3},
		{5, 2, 4, 5},
		{5, -2, 4, 5},
		{5, 1, 4, 5},
		{5, 0, 5, 5},
		{5, 5, 0, 0},
		{5, -5, 0, 0},
		{5, 6, 0, 0},
		{5, -6, 0, 0},
		{0, 0, 0, 0},
		{0, 1, 0, 0},
		{0, -api.MaxLength, 0, 0},
		{1, 0, 1, 1},
		{api.MaxLength, 0, api.MaxLength, api.MaxLength},
		{api.MaxLength, api.MaxLength, 0, 0},
		{api.MaxLength, -api.MaxLength, 0, 0},
		{api.MaxLength, 60000, 80000, 80000},
		{api.MaxLength, 1, api.MaxLength - 1, api.MaxLength},
		{api.MaxLength, api.MaxLength - 1, 447, 448},
		{api.MaxLength - 1, api.MaxLength, 0, 0},
	} {
		if got, e := root.Half(x.r, x.y); got != (api.Bounds{Low: x.low, High: x.high}) || e != api.OK {
			t.Error("Half", x, got, e)
		}
		if got, e := root.Chord(x.r, x.y); got != (api.Bounds{Low: 2 * x.low, High: 2 * x.high}) || e != api.OK {
			t.Error("Chord", x, got, e)
		}
	}
}

// P6.2 and P6.3: many circles, against Go's library; chords grow with the radius, and get smaller with the distance.
func TestChords(t *testing.T) {
	check := func(r, y int) {
		t.Helper()
		want := api.Bounds{}
		if max(y, -y) <= r {
			want = reference(big.NewInt(int64(r*r - y*y)))
		}
		half, e := root.Half(r, y)
		chord, f := root.Chord(r, y)
		if half != want || chord != (api.Bounds{Low: 2 * want.Low, High: 2 * want.High}) || e != api.OK || f != api.OK {
			t.Fatal(r, y, half, chord, e, f)
		}
		if wider, e := root.Chord(min(r+1, api.MaxLength), y); wider.Low < chord.Low || wider.High < chord.High || e != api.OK {
			t.Fatal("another radius", r, y, chord, wider)
		}
		if further, e := root.Chord(r, min(max(y, -y)+1, api.MaxLength)); further.Low > chord.Low || further.High > chord.High || e != api.OK {
			t.Fatal("another distance", r, y, chord, further)
		}
		if y == 0 && chord != (api.Bounds{Low: 2 * r, High: 2 * r}) {
			t.Fatal("at the centre", r, chord)
		}
	}
	for r := range 60 {
		for y := -62; y <= 62; y++ {
			check(r, y)
		}
	}
	for r := 0; r <= api.MaxLength; r += 6250 {
		for y := -api.MaxLength; y <= api.MaxLength; y += 5000 {
			check(r, y)
		}
	}
}

// P6.2: what is no radius, or no distance.
func TestChordsRefuse(t *testing.T) {
	check := func(r, y int) {
		t.Helper()
		if got, e := root.Half(r, y); got != (api.Bounds{}) || e != api.ErrRange {
			t.Error("Half", r, y, got, e)
		}
		if got, e := root.Chord(r, y); got != (api.Bounds{}) || e != api.ErrRange {
			t.Error("Chord", r, y, got, e)
		}
	}
	for _, r := range []int{-1, -5, api.MaxLength + 1, math.MinInt, math.MaxInt} {
		check(r, 0)
		check(r, 3)
		check(r, r)
	}
	for _, y := range []int{api.MaxLength + 1, -api.MaxLength - 1, math.MinInt, math.MaxInt} {
		check(0, y)
		check(5, y)
		check(api.MaxLength, y)
	}
}

// P6.1 and P6.3: the example of the document, and many roots against Go's library; they lie between k times both roots.
func TestFold(t *testing.T) {
	for _, x := range []struct{ n, k, want int }{
		{2, 100, 141},
		{2, 1, 1},
		{2, 10, 14},
		{2, 1000, 1414},
		{3, 1000, 1732},
		{4, 7, 14},
		{0, 1, 0},
		{0, mostTimes, 0},
		{1, mostTimes, mostTimes},
		{mostFold, 1, 1 << 20},
		{mostFold, mostTimes, mostTimes << 20},
		{mostFold - 1, mostTimes, mostTimes<<20 - 1},
		{mostFold - 1, 1, 1<<20 - 1},
	} {
		if got, e := root.Fold(x.n, x.k); got != x.want || e != api.OK {
			t.Error(x, got, e)
		}
	}
	for _, n := range numbers() {
		if n > mostFold {
			continue
		}
		down, _ := root.Down(n)
		up, _ := root.Up(n)
		for _, k := range []int{1, 2, 3, 10, 99, 100, 999, mostTimes} {
			want := reference(new(big.Int).Mul(big.NewInt(int64(n)), big.NewInt(int64(k*k)))).Low
			if got, e := root.Fold(n, k); got != want || got < k*down || got > k*up || e != api.OK {
				t.Fatal(n, k, got, want, e)
			}
		}
	}
}

// P6.1: what is out of range for Fold.
func TestFoldRefuses(t *testing.T) {
	check := func(n, k int) {
		t.Helper()
		if got, e := root.Fold(n, k); got != 0 || e != api.ErrRange {
			t.Error(n, k, got, e)
		}
	}
	for _, n := range []int{-1, mostFold + 1, most, math.MinInt, math.MaxInt} {
		check(n, 1)
		check(n, mostTimes)
		check(n, 0)
	}
	for _, k := range []int{0, -1, mostTimes + 1, math.MinInt, math.MaxInt} {
		check(2, k)
		check(0, k)
		check(mostFold, k)
	}
}

// P1: no function panics, for all arguments.
func TestNoPanic(t *testing.T) {
	all := []int{math.MinInt, -most, -api.MaxLength, -1, 0, 1, 2, 3, 5, 1000, api.MaxLength, mostFold, most, most + 1, math.MaxInt}
	for _, a := range all {
		root.Down(a)
		root.Up(a)
		root.Square(a)
		for _, b := range all {
			root.Half(a, b)
			root.Chord(a, b)
			root.Fold(a, b)
		}
	}
}
