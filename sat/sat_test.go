package sat

import (
	"math"
	"math/big"
	"slices"
	"testing"
)

// edges are numbers at which sums, products and percents turn: around 0, around powers of two, around a hundredth of Most, and at Most.
func edges() []uint64 {
	return []uint64{
		0, 1, 2, 3, 5, 49, 50, 51, 99, 100, 101,
		1<<31 - 1, 1 << 31, 1<<32 - 1, 1 << 32, 1<<32 + 1, 1 << 33,
		Most/100 - 1, Most / 100, Most/100 + 1,
		1<<63 - 1, 1 << 63, 1<<63 + 1, Most - 1, Most,
	}
}

func percents() []int {
	return []int{
		math.MinInt, math.MinInt + 1, -101, -100, -5, -1,
		0, 1, 2, 49, 50, 51, 99, 100, 101, 200,
		1 << 31, math.MaxInt - 1, math.MaxInt,
	}
}

func endless(n uint64) *big.Int { return new(big.Int).SetUint64(n) }

// capped is a number without an end, brought between 0 and Most.
func capped(n *big.Int) uint64 {
	if n.Sign() < 0 {
		return 0
	}
	if !n.IsUint64() {
		return Most
	}
	return n.Uint64()
}

// atLeast is P1.2's words in numbers without an end.
func atLeast(part, all uint64, percent int) bool {
	have := new(big.Int).Mul(endless(part), big.NewInt(100))
	want := new(big.Int).Mul(endless(all), big.NewInt(int64(max(percent, 0))))
	return have.Cmp(want) >= 0
}

// P1.1: Add.
func TestAdd(t *testing.T) {
	for _, c := range []struct{ a, b, want uint64 }{
		{0, 0, 0},
		{2, 3, 5},
		{Most, 0, Most},
		{0, Most, Most},
		{Most - 1, 1, Most},
		{Most, 1, Most},
		{1, Most, Most},
		{Most, Most, Most},
		{1 << 63, 1<<63 - 1, Most},
		{1 << 63, 1 << 63, Most},
		{1<<63 + 7, 1 << 63, Most},
	} {
		if got := Add(c.a, c.b); got != c.want {
			t.Errorf("Add(%d, %d) = %d, want %d", c.a, c.b, got, c.want)
		}
	}
}

// P1.1: Sub.
func TestSub(t *testing.T) {
	for _, c := range []struct{ a, b, want uint64 }{
		{0, 0, 0},
		{5, 3, 2},
		{3, 5, 0},
		{3, 3, 0},
		{0, 1, 0},
		{0, Most, 0},
		{Most - 1, Most, 0},
		{Most, Most, 0},
		{Most, 0, Most},
		{Most, 1, Most - 1},
	} {
		if got := Sub(c.a, c.b); got != c.want {
			t.Errorf("Sub(%d, %d) = %d, want %d", c.a, c.b, got, c.want)
		}
	}
}

// P1.1: Mul.
func TestMul(t *testing.T) {
	for _, c := range []struct{ a, b, want uint64 }{
		{0, 0, 0},
		{7, 6, 42},
		{0, Most, 0},
		{Most, 0, 0},
		{1, Most, Most},
		{Most, 1, Most},
		{2, Most, Most},
		{Most, Most, Most},
		{1 << 32, 1 << 31, 1 << 63},
		{1 << 32, 1 << 32, Most},
		{1 << 33, 1 << 31, Most},
		{1<<32 - 1, 1<<32 + 1, Most},
		{1<<32 - 1, 1 << 32, Most - (1<<32 - 1)},
		{3, Most / 3, Most},
		{3, Most/3 - 1, Most - 3},
		{3, Most/3 + 1, Most},
	} {
		if got := Mul(c.a, c.b); got != c.want {
			t.Errorf("Mul(%d, %d) = %d, want %d", c.a, c.b, got, c.want)
		}
	}
}

// P1.1: two numbers are what they are without an end, brought between 0 and Most.
func TestTwoAsNumbersWithoutAnEnd(t *testing.T) {
	for _, a := range edges() {
		for _, b := range edges() {
			if got, want := Add(a, b), capped(new(big.Int).Add(endless(a), endless(b))); got != want {
				t.Errorf("Add(%d, %d) = %d, want %d", a, b, got, want)
			}
			if got, want := Sub(a, b), capped(new(big.Int).Sub(endless(a), endless(b))); got != want {
				t.Errorf("Sub(%d, %d) = %d, want %d", a, b, got, want)
			}
			if got, want := Mul(a, b), capped(new(big.Int).Mul(endless(a), endless(b))); got != want {
				t.Errorf("Mul(%d, %d) = %d, want %d", a, b, got, want)
			}
		}
	}
}

// P1.1: Sum.
func TestSum(t *testing.T) {
	for _, c := range []struct {
		l    []uint64
		want uint64
	}{
		{nil, 0},
		{[]uint64{}, 0},
		{[]uint64{0}, 0},
		{[]uint64{7}, 7},
		{[]uint64{Most}, Most},
		{[]uint64{1, 2, 3, 4}, 10},
		{[]uint64{1, 2, Most}, Most},
		{[]uint64{Most, 1, 2}, Most},
		{[]uint64{Most, Most, 2}, Most},
		{[]uint64{Most - 3, 1, 1, 1}, Most},
		{[]uint64{Most - 3, 1, 1}, Most - 1},
		{[]uint64{1 << 63, 1 << 63, 5}, Most},
	} {
		if got := Sum(c.l...); got != c.want {
			t.Errorf("Sum(%v) = %d, want %d", c.l, got, c.want)
		}
	}
	if got := Sum(); got != 0 {
		t.Errorf("Sum() = %d, want 0", got)
	}
}

// R3: what is summed stays as it is.
func TestSumLeavesItsListAlone(t *testing.T) {
	l := []uint64{3, Most, 1, 2}
	Sum(l...)
	if want := []uint64{3, Most, 1, 2}; !slices.Equal(l, want) {
		t.Errorf("summed, the list is %v, want %v", l, want)
	}
}

// P1.2: AtLeast.
func TestAtLeast(t *testing.T) {
	const hundredth = Most / 100 // the greatest part whose hundredfold is 64 bits long
	for _, c := range []struct {
		part, whole uint64
		percent     int
		want        bool
	}{
		{1, 2, 50, true},
		{1, 2, 51, false},
		{1, 2, 49, true},
		{1, 3, 33, true},
		{1, 3, 34, false},
		{2, 4, 50, true},
		{0, 0, 0, true},
		{0, 0, 100, true},
		{0, 0, math.MaxInt, true},
		{0, 9, 0, true},
		{0, 9, 1, false},
		{5, 0, 100, true},
		{3, 2, 150, true},
		{3, 2, 151, false},
		{0, 9, -5, true},
		{0, Most, -1, true},
		{0, Most, math.MinInt, true},
		{Most, Most, math.MinInt, true},
		{Most, Most, 100, true},
		{Most, Most, 101, false},
		{Most - 1, Most, 100, false},
		{Most - 1, Most, 99, true},
		{hundredth, 1, math.MaxInt, true},
		{hundredth, Most, 1, false},
		{hundredth + 1, Most, 1, true},
		{hundredth + 1, Most, 2, false},
		{1, Most, 100, false},
		{1, Most, math.MaxInt, false},
		{Most, 1, math.MaxInt, true},
		{Most, Most, math.MaxInt, false},
		{1, 1 << 62, 4, false},
		{1, 1 << 63, 2, false},
		{1 << 62, 25, 4, true},
	} {
		if got := AtLeast(c.part, c.whole, c.percent); got != c.want {
			t.Errorf("AtLeast(%d, %d, %d) = %t, want %t", c.part, c.whole, c.percent, got, c.want)
		}
	}
}

// P1.2: as numbers without an end, at all edges.
func TestAtLeastAsNumbersWithoutAnEnd(t *testing.T) {
	for _, part := range edges() {
		for _, all := range edges() {
			for _, percent := range percents() {
				if got, want := AtLeast(part, all, percent), atLeast(part, all, percent); got != want {
					t.Errorf("AtLeast(%d, %d, %d) = %t, want %t", part, all, percent, got, want)
				}
			}
		}
	}
}

// P1.3: sums don't hang on their order.
func TestSumsDontHangOnTheirOrder(t *testing.T) {
	for _, a := range edges() {
		for _, b := range edges() {
			if Add(a, b) != Add(b, a) {
				t.Errorf("Add(%d, %d) hangs on its order", a, b)
			}
			for _, c := range edges() {
				want := capped(new(big.Int).Add(endless(a), new(big.Int).Add(endless(b), endless(c))))
				for _, l := range [][]uint64{{a, b, c}, {a, c, b}, {b, a, c}, {b, c, a}, {c, a, b}, {c, b, a}} {
					if got := Sum(l...); got != want {
						t.Errorf("Sum(%v) = %d, want %d", l, got, want)
					}
				}
				if Add(Add(a, b), c) != Add(a, Add(b, c)) {
					t.Errorf("%d, %d and %d together hang on which two are first", a, b, c)
				}
			}
		}
	}
}

// P1.3: what is at least some percent is at least fewer.
func TestAtLeastSomeIsAtLeastFewer(t *testing.T) {
	rising := percents()
	for _, part := range edges() {
		for _, all := range edges() {
			for i, more := range rising {
				if !AtLeast(part, all, more) {
					continue
				}
				for _, fewer := range rising[:i] {
					if !AtLeast(part, all, fewer) {
						t.Errorf("%d of %d is at least %d percent, and not %d", part, all, more, fewer)
					}
				}
			}
		}
	}
}

// TestMostFitsANumber: Most is the greatest uint64, and a constant that is of no type of its own.
func TestMostFitsANumber(t *testing.T) {
	var n uint64 = Most
	n++
	if n != 0 {
		t.Errorf("Most and 1 wrap round to %d, want 0", n)
	}
	var f float64 = Most // does not compile, if Most has a type
	if f != math.MaxUint64 {
		t.Errorf("Most is %g", f)
	}
}
