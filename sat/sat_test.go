package sat_test

import (
	"math"
	"math/big"
	"math/bits"
	"testing"

	"pillarbox/api"
	"pillarbox/sat"
)

const top = api.MaxTime

// samples are ordinary numbers, the edges 0 and MaxTime with their
// neighbours, the ends of the type, numbers about the roots and halves of
// MaxTime, and numbers whose plain sums and products go round to small ones.
func samples() []int {
	list := []int{
		math.MinInt, math.MinInt + 1, math.MinInt + top, -top - 1, -top, -top + 1,
		-(1 << 32), -7, -2, -1, 0, 1, 2, 3, 5, 7, 10, 1000, 1 << 13,
		top/3 - 1, top / 3, top/3 + 1, top/2 - 1, top / 2, top/2 + 1,
		top - 1, top, top + 1, 2*top - 1, 2 * top, 2*top + 1,
		math.MaxInt - top, math.MaxInt/2 + 1, math.MaxInt - 1, math.MaxInt,
	}
	for _, shift := range []int{16, 20, 24, 31, 32, 39} {
		list = append(list, 1<<shift-1, 1<<shift, 1<<shift+1)
	}
	return list
}

// clampBig is Clamp of a number without a bound.
func clampBig(n *big.Int) int {
	if n.Sign() < 0 {
		return 0
	}
	if n.Cmp(big.NewInt(top)) > 0 {
		return top
	}
	return int(n.Int64())
}

// clamped is Clamp of n, as a number without a bound.
func clamped(n int) *big.Int {
	return big.NewInt(int64(clampBig(big.NewInt(int64(n)))))
}

func TestIntHoldsMaxTime(t *testing.T) {
	if bits.UintSize != 64 {
		t.Fatal("an int has", bits.UintSize, "bits")
	}
}

func TestClamp(t *testing.T) {
	for _, c := range []struct{ n, want int }{
		{5, 5}, {1000, 1000}, {0, 0}, {1, 1}, {-1, 0}, {-1000, 0},
		{1099511627775, 1099511627775}, {1099511627776, 1099511627776},
		{1099511627777, 1099511627776},
		{math.MinInt, 0}, {math.MaxInt, 1099511627776},
	} {
		if got := sat.Clamp(c.n); got != c.want {
			t.Errorf("Clamp(%d) = %d, want %d", c.n, got, c.want)
		}
	}
	for _, n := range samples() {
		if got, want := sat.Clamp(n), clampBig(big.NewInt(int64(n))); got != want {
			t.Errorf("Clamp(%d) = %d, want %d", n, got, want)
		}
	}
}

// pair is a call's arguments, and what it is to answer.
type pair struct{ a, b, want int }

func checkPairs(t *testing.T, name string, call func(a, b int) int, pairs []pair) {
	t.Helper()
	for _, p := range pairs {
		if got := call(p.a, p.b); got != p.want {
			t.Errorf("%s(%d, %d) = %d, want %d", name, p.a, p.b, got, p.want)
		}
	}
}

func TestAdd(t *testing.T) {
	checkPairs(t, "Add", sat.Add, []pair{
		{1, 2, 3}, {0, 0, 0}, {0, 9, 9}, {9, 0, 9},
		{top, 1, top}, {1, top, top}, {top - 1, 1, top}, {top - 2, 1, top - 1},
		{top, 0, top}, {top, top, top}, {top + 1, 0, top},
		{-5, 7, 7}, {7, -5, 7}, {-1, -1, 0}, {top, -1, top}, {top + 1, -1, top},
		{math.MaxInt, 1, top}, {math.MaxInt, math.MaxInt, top},
		{math.MinInt, -1, 0}, {math.MinInt, math.MinInt, 0},
		{math.MinInt, math.MaxInt, top}, {math.MinInt, 4, 4},
	})
}

func TestSub(t *testing.T) {
	checkPairs(t, "Sub", sat.Sub, []pair{
		{5, 3, 2}, {3, 5, 0}, {4, 4, 0}, {0, 0, 0}, {0, 1, 0}, {9, 0, 9},
		{top, 1, top - 1}, {top, top, 0}, {top, 0, top}, {0, top, 0},
		{top + 1, 1, top - 1}, {top + 1, top, 0}, {top, top + 1, 0},
		{top - 1, top + 1, 0}, {top + 5, top + 1, 0},
		{5, -3, 5}, {-3, -5, 0}, {top, -1, top},
		{math.MaxInt, math.MinInt, top}, {math.MaxInt, math.MaxInt, 0},
		{math.MinInt, 1, 0}, {math.MinInt, math.MinInt, 0},
		{0, math.MinInt, 0}, {7, math.MinInt, 7}, {math.MaxInt, 1, top - 1},
	})
}

func TestMul(t *testing.T) {
	checkPairs(t, "Mul", sat.Mul, []pair{
		{3, 4, 12}, {0, 0, 0}, {0, 9, 0}, {9, 0, 0}, {1, 9, 9}, {9, 1, 9},
		{top, 1, top}, {1, top, top}, {top, 0, 0}, {0, top, 0}, {top, 2, top},
		{top + 1, 1, top}, {top - 1, 1, top - 1}, {top / 2, 2, top},
		{1 << 20, 1 << 20, top}, {1<<20 - 1, 1<<20 + 1, top - 1},
		{1<<20 + 1, 1 << 20, top}, {top / 3, 3, top - 1}, {top/3 + 1, 3, top},
		{1 << 32, 1 << 32, top}, {1 << 31, 1 << 33, top}, {top, top, top},
		{-3, -4, 0}, {-3, 4, 0}, {4, -3, 0}, {-1, top, 0},
		{math.MinInt, -1, 0}, {math.MinInt, math.MinInt, 0}, {-1, math.MinInt, 0},
		{math.MaxInt, math.MaxInt, top}, {math.MaxInt, 0, 0}, {0, math.MaxInt, 0},
		{math.MaxInt, math.MinInt, 0}, {math.MaxInt, 1, top},
	})
}

// TestAgainstUnboundedNumbers holds every two samples against the promise's
// own words, worked out by numbers without a bound.
func TestAgainstUnboundedNumbers(t *testing.T) {
	for _, a := range samples() {
		for _, b := range samples() {
			x, y := clamped(a), clamped(b)
			checkPairs(t, "Add", sat.Add, []pair{{a, b, clampBig(new(big.Int).Add(x, y))}})
			checkPairs(t, "Sub", sat.Sub, []pair{{a, b, clampBig(new(big.Int).Sub(x, y))}})
			checkPairs(t, "Mul", sat.Mul, []pair{{a, b, clampBig(new(big.Int).Mul(x, y))}})
		}
	}
}

// TestLimits holds the given limit against the document's.
func TestLimits(t *testing.T) {
	if top != 1<<40 {
		t.Errorf("MaxTime = %d, want 2^40", top)
	}
}
