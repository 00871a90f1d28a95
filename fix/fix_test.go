package fix

import (
	"math"
	"math/big"
	"testing"

	"azulejo/api"
)

// numbers are arguments around every limit that the chapter names, from one end of int to the other.
func numbers() []int {
	list := []int{math.MinInt, math.MinInt + 1, math.MaxInt - 1, math.MaxInt}
	around := []int{0, 1 << 8, 1 << 15, 1 << 16, 1 << 31, 1 << 32, 1 << 47, 1 << 61, 1 << 62}
	for _, n := range around {
		for d := -2; d <= 2; d++ {
			list = append(list, n+d, -n-d)
		}
	}
	return append(list, 7, -7, 1000, -1000, 98304, -98304, 123456789, -123456789)
}

// The expected results are computed with big integers, where nothing can overflow.

func exact(n int) *big.Int { return big.NewInt(int64(n)) }

func limited(n *big.Int, most int) *big.Int {
	low, high := exact(-most), exact(most)
	if n.Cmp(low) < 0 {
		return low
	}
	if n.Cmp(high) > 0 {
		return high
	}
	return n
}

func clamped(n *big.Int) *big.Int { return limited(n, api.MaxQ) }

func roundedDown(a, b *big.Int) *big.Int {
	quotient, rest := new(big.Int).QuoRem(a, b, new(big.Int))
	if rest.Sign()*b.Sign() < 0 {
		quotient.Sub(quotient, big.NewInt(1))
	}
	return quotient
}

func wantExact(t *testing.T, got int, want *big.Int, call string, arguments ...int) {
	t.Helper()
	if exact(got).Cmp(want) != 0 {
		t.Errorf("P1.1: %s%v = %d, want %v", call, arguments, got, want)
	}
}

type unary struct {
	n, want int
}

type binary struct {
	a, b, want int
}

func checkUnary(t *testing.T, f func(n int) int, rows []unary) {
	t.Helper()
	for _, r := range rows {
		if got := f(r.n); got != r.want {
			t.Errorf("P1.1: of %d: got %d, want %d", r.n, got, r.want)
		}
	}
}

func checkBinary(t *testing.T, f func(a, b int) int, rows []binary) {
	t.Helper()
	for _, r := range rows {
		if got := f(r.a, r.b); got != r.want {
			t.Errorf("P1.1: of %d and %d: got %d, want %d", r.a, r.b, got, r.want)
		}
	}
}

const maxQ = api.MaxQ

func TestClamp(t *testing.T) {
	checkUnary(t, Clamp, []unary{
		{0, 0}, {5, 5}, {-5, -5},
		{maxQ, maxQ}, {maxQ + 1, maxQ}, {-maxQ, -maxQ}, {-maxQ - 1, -maxQ},
		{math.MaxInt, maxQ}, {math.MinInt, -maxQ},
	})
	for _, n := range numbers() {
		wantExact(t, Clamp(n), clamped(exact(n)), "Clamp", n)
	}
}

func TestWithin(t *testing.T) {
	checkBinary(t, Within, []binary{
		{3, 4, 3}, {-3, 4, -3}, {4, 4, 4}, {-4, 4, -4}, {5, 4, 4}, {-9, 4, -4},
		{5, 0, 0}, {-5, 0, 0}, {0, 0, 0},
		{math.MaxInt, math.MaxInt, math.MaxInt}, {math.MinInt, math.MaxInt, -math.MaxInt},
		{math.MaxInt, 4, 4}, {math.MinInt, 4, -4},
	})
	for _, n := range numbers() {
		for _, most := range numbers() {
			if most >= 0 {
				wantExact(t, Within(n, most), limited(exact(n), most), "Within", n, most)
			}
		}
	}
}

func TestWithinOfANegativeBound(t *testing.T) {
	checkBinary(t, Within, []binary{
		{9, -4, 4}, {2, -4, 4}, {0, -4, 4}, {-2, -4, 4}, {-9, -4, 4}, {0, -1, 1},
		{math.MinInt, -4, 4}, {math.MaxInt, -4, 4},
		{0, -math.MaxInt, math.MaxInt},
	})
	for _, n := range numbers() {
		for _, most := range numbers() {
			if most < 0 && most != math.MinInt {
				wantExact(t, Within(n, most), exact(-most), "Within", n, most)
			}
		}
	}
}

func TestFloor(t *testing.T) {
	checkBinary(t, Floor, []binary{
		{7, 2, 3}, {-7, 2, -4}, {7, -2, -4}, {-7, -2, 3},
		{6, 2, 3}, {-6, 2, -3}, {6, -2, -3}, {-6, -2, 3},
		{1, 3, 0}, {-1, 3, -1}, {1, -3, -1}, {-1, -3, 0}, {0, 5, 0}, {0, -5, 0},
		{1 << 62, 1, 1 << 62}, {1 << 62, -1, -1 << 62}, {-1 << 62, -1, 1 << 62},
		{-1, 1 << 62, -1}, {1, -1 << 62, -1}, {-1 << 62, 1 << 62, -1},
		{5, 0, 0}, {0, 0, 0}, {-5, 0, 0}, {math.MinInt, 0, 0}, {math.MaxInt, 0, 0},
	})
	const far = 1 << 62
	for _, a := range numbers() {
		for _, b := range numbers() {
			inRange := -far <= a && a <= far && -far <= b && b <= far
			if inRange && b != 0 {
				wantExact(t, Floor(a, b), roundedDown(exact(a), exact(b)), "Floor", a, b)
			}
		}
	}
}

func TestAdd(t *testing.T) {
	checkBinary(t, Add, []binary{
		{1, 2, 3}, {1, -2, -1}, {maxQ, 0, maxQ}, {maxQ, 5, maxQ}, {-maxQ, -5, -maxQ},
		{maxQ, -maxQ, 0}, {maxQ + 7, -5, maxQ - 5}, {-maxQ - 7, 5, -maxQ + 5},
		{math.MaxInt, math.MaxInt, maxQ}, {math.MinInt, math.MinInt, -maxQ}, {math.MaxInt, math.MinInt, 0},
	})
	for _, a := range numbers() {
		for _, b := range numbers() {
			sum := new(big.Int).Add(clamped(exact(a)), clamped(exact(b)))
			wantExact(t, Add(a, b), clamped(sum), "Add", a, b)
		}
	}
}

func TestSub(t *testing.T) {
	checkBinary(t, Sub, []binary{
		{1, 2, -1}, {5, 3, 2}, {maxQ, -5, maxQ}, {-maxQ, 5, -maxQ}, {maxQ, maxQ, 0},
		{maxQ + 7, 5, maxQ - 5}, {5, -maxQ - 7, maxQ}, {-5, -maxQ - 7, maxQ - 5},
		{math.MaxInt, math.MinInt, maxQ}, {math.MinInt, math.MaxInt, -maxQ}, {math.MinInt, math.MinInt, 0},
	})
	for _, a := range numbers() {
		for _, b := range numbers() {
			difference := new(big.Int).Sub(clamped(exact(a)), clamped(exact(b)))
			wantExact(t, Sub(a, b), clamped(difference), "Sub", a, b)
		}
	}
}

func TestMul(t *testing.T) {
	checkBinary(t, Mul, []binary{
		{65536, 65536, 65536}, {98304, 131072, 196608}, {-98304, 131072, -196608}, {-65536, -65536, 65536},
		{1, 1, 0}, {-1, 1, -1}, {1, -1, -1}, {-1, -1, 0}, {-3, 32768, -2}, {3, 32768, 1}, {0, maxQ, 0},
		{maxQ, maxQ, maxQ}, {maxQ, -maxQ, -maxQ}, {maxQ + 9, 65536, maxQ}, {maxQ, 65535, 2147450879},
		{math.MinInt, math.MinInt, maxQ}, {math.MinInt, math.MaxInt, -maxQ}, {math.MaxInt, 32768, 1073741823},
	})
	one := exact(api.One)
	for _, a := range numbers() {
		for _, b := range numbers() {
			product := new(big.Int).Mul(clamped(exact(a)), clamped(exact(b)))
			wantExact(t, Mul(a, b), clamped(roundedDown(product, one)), "Mul", a, b)
		}
	}
}

func TestDiv(t *testing.T) {
	checkBinary(t, Div, []binary{
		{65536, 131072, 32768}, {-65536, 131072, -32768}, {65536, 196608, 21845}, {-65536, 196608, -21846},
		{65536, -196608, -21846}, {-65536, -196608, 21845}, {0, 5, 0}, {1, maxQ, 0}, {-1, maxQ, -1},
		{maxQ, 1, maxQ}, {-maxQ, 1, -maxQ}, {maxQ, -1, -maxQ}, {32767, 1, 2147418112}, {32768, 1, maxQ}, {-32768, 1, -maxQ},
		{math.MaxInt, math.MaxInt, 65536}, {math.MinInt, math.MaxInt, -65536}, {math.MinInt, -1, maxQ},
		{65536, math.MaxInt, 2}, {65536, math.MinInt, -3},
	})
	for _, a := range numbers() {
		for _, b := range numbers() {
			if b != 0 {
				dividend := new(big.Int).Mul(exact(api.One), clamped(exact(a)))
				wantExact(t, Div(a, b), clamped(roundedDown(dividend, clamped(exact(b)))), "Div", a, b)
			}
		}
	}
}

func TestDivByZero(t *testing.T) {
	checkBinary(t, Div, []binary{
		{3, 0, maxQ}, {1, 0, maxQ}, {0, 0, 0}, {-1, 0, -maxQ}, {-3, 0, -maxQ},
		{maxQ + 1, 0, maxQ}, {math.MaxInt, 0, maxQ}, {math.MinInt, 0, -maxQ},
	})
}

func TestOf(t *testing.T) {
	checkUnary(t, Of, []unary{
		{0, 0}, {1, 65536}, {-2, -131072}, {32767, 2147418112}, {-32767, -2147418112},
		{32768, maxQ}, {-32768, -maxQ}, {65536, maxQ}, {65537, maxQ}, {-65537, -maxQ},
		{1 << 47, maxQ}, {1 << 48, maxQ}, {-1 << 48, -maxQ}, {math.MaxInt, maxQ}, {math.MinInt, -maxQ},
	})
	for _, n := range numbers() {
		product := new(big.Int).Mul(exact(api.One), limited(exact(n), 65536))
		wantExact(t, Of(n), clamped(product), "Of", n)
	}
}

func TestWhole(t *testing.T) {
	checkUnary(t, Whole, []unary{
		{0, 0}, {1, 0}, {65535, 0}, {65536, 1}, {98304, 1}, {-1, -1}, {-65536, -1}, {-65537, -2},
		{maxQ, 32767}, {maxQ + 1, 32767}, {-maxQ, -32768}, {-maxQ - 2, -32768},
		{math.MaxInt, 32767}, {math.MinInt, -32768},
	})
	for _, n := range numbers() {
		wantExact(t, Whole(n), roundedDown(clamped(exact(n)), exact(api.One)), "Whole", n)
	}
}

// P1 and R8: no argument panics, not even where nothing else is promised, and every call answers the same again.
func TestAllArgumentsAnswerTheSameAgain(t *testing.T) {
	functions := []func(a, b int) int{Within, Floor, Add, Sub, Mul, Div}
	functions = append(functions,
		func(a, _ int) int { return Clamp(a) },
		func(a, _ int) int { return Of(a) },
		func(a, _ int) int { return Whole(a) },
	)
	for i, f := range functions {
		for _, a := range numbers() {
			for _, b := range numbers() {
				if f(a, b) != f(a, b) {
					t.Errorf("R8: function %d of %d and %d answers differently", i, a, b)
				}
			}
		}
	}
}

// R1: int has 64 bits.
func TestIntHas64Bits(t *testing.T) {
	if uint64(math.MaxInt) != 1<<63-1 {
		t.Error("R1")
	}
}
