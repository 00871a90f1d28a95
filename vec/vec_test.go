package vec

import (
	"math"
	"math/big"
	"testing"

	"azulejo/api"
)

const (
	one  = api.One
	maxQ = api.MaxQ
)

// numbers are components around every limit, from one end of int to the other.
func numbers() []int {
	list := []int{math.MinInt, math.MinInt + 1, math.MaxInt - 1, math.MaxInt, 0, 1, -1, 7, -7, 98304, -98304}
	for _, n := range []int{1 << 15, 1 << 16, 1 << 30, 1 << 31, 1 << 32, 1 << 47, 1 << 62} {
		list = append(list, n-1, n, n+1, -n-1, -n, -n+1)
	}
	return list
}

// sample returns count vectors of numbers, in an order that mixes ordinary components with those beyond the limits.
func sample(count int) []Vec {
	list := numbers()
	vectors := make([]Vec, count)
	place := uint32(1)
	for i := range vectors {
		for j := range vectors[i] {
			place = place*1664525 + 1013904223
			vectors[i][j] = list[int(place>>8)%len(list)]
		}
	}
	return vectors
}

// sampleMats returns matrices of sample's vectors.
func sampleMats(count int) []Mat {
	rows := sample(4 * count)
	matrices := make([]Mat, count)
	for i := range matrices {
		matrices[i] = Mat(rows[4*i : 4*i+4])
	}
	return matrices
}

// The expected results are computed with big integers, where nothing can overflow.

func exact(n int) *big.Int { return big.NewInt(int64(n)) }

func limited(n *big.Int, most int) *big.Int {
	low, high := exact(-most), exact(most)
	if n.Cmp(low) < 0 {
		return low
	}
	if n.Cmp(high) > 0 {
		return high
	}
	return n
}

func number(n *big.Int) int { return int(limited(n, maxQ).Int64()) }

func clamped(n int) int { return number(exact(n)) }

func clampedVec(v Vec) Vec { return Vec{clamped(v[0]), clamped(v[1]), clamped(v[2]), clamped(v[3])} }

func clampedMat(m Mat) Mat {
	return Mat{clampedVec(m[0]), clampedVec(m[1]), clampedVec(m[2]), clampedVec(m[3])}
}

func sum(x, y int) int { return number(new(big.Int).Add(exact(clamped(x)), exact(clamped(y)))) }

func difference(x, y int) int { return number(new(big.Int).Sub(exact(clamped(x)), exact(clamped(y)))) }

func product(x, y int) int {
	p := new(big.Int).Mul(exact(clamped(x)), exact(clamped(y)))
	return number(p.Rsh(p, 16)) // Rsh of a big integer rounds down
}

func smaller(x, y int) int {
	if clamped(x) < clamped(y) {
		return clamped(x)
	}
	return clamped(y)
}

func greater(x, y int) int {
	if clamped(x) > clamped(y) {
		return clamped(x)
	}
	return clamped(y)
}

func dot(a, b Vec) int {
	return sum(sum(sum(product(a[0], b[0]), product(a[1], b[1])), product(a[2], b[2])), product(a[3], b[3]))
}

func wantVec(t *testing.T, promise string, got, want Vec) {
	t.Helper()
	if got != want {
		t.Errorf("%s: got %v, want %v", promise, got, want)
	}
}

func wantMat(t *testing.T, promise string, got, want Mat) {
	t.Helper()
	if got != want {
		t.Errorf("%s: got %v, want %v", promise, got, want)
	}
}

type row struct {
	a, b, want Vec
}

func checkRows(t *testing.T, method func(a, b Vec) Vec, rows []row) {
	t.Helper()
	for _, r := range rows {
		if got := method(r.a, r.b); got != r.want {
			t.Errorf("P2.1: of %v and %v: got %v, want %v", r.a, r.b, got, r.want)
		}
	}
}

// checkAll holds a method against its operation on numbers, at each place, for every pair of numbers.
func checkAll(t *testing.T, method func(a, b Vec) Vec, op func(x, y int) int) {
	t.Helper()
	list := numbers()
	for i, x := range list {
		for j, y := range list {
			a := Vec{x, list[(i+1)%len(list)], y, 3 * one}
			b := Vec{y, x, list[(j+1)%len(list)], x}
			var want Vec
			for k := range want {
				want[k] = op(a[k], b[k])
			}
			if got := method(a, b); got != want {
				t.Errorf("P2.1: of %v and %v: got %v, want %v", a, b, got, want)
			}
		}
	}
}

func TestAdd(t *testing.T) {
	checkRows(t, Vec.Add, []row{
		{Vec{1, 2, 3, 4}, Vec{10, 20, 30, 40}, Vec{11, 22, 33, 44}},
		{Vec{maxQ, -maxQ, maxQ, 0}, Vec{5, -5, -maxQ, -1}, Vec{maxQ, -maxQ, 0, -1}},
		{Vec{maxQ + 7, -maxQ - 7, math.MaxInt, math.MinInt}, Vec{-5, 5, math.MinInt, math.MinInt}, Vec{maxQ - 5, -maxQ + 5, 0, -maxQ}},
	})
	checkAll(t, Vec.Add, sum)
}

func TestSub(t *testing.T) {
	checkRows(t, Vec.Sub, []row{
		{Vec{10, 20, 30, 40}, Vec{1, 2, 3, 50}, Vec{9, 18, 27, -10}},
		{Vec{maxQ, -maxQ, maxQ, 0}, Vec{-5, 5, maxQ, 1}, Vec{maxQ, -maxQ, 0, -1}},
		{Vec{maxQ + 7, 5, math.MaxInt, math.MinInt}, Vec{5, -maxQ - 7, math.MinInt, math.MinInt}, Vec{maxQ - 5, maxQ, maxQ, 0}},
	})
	checkAll(t, Vec.Sub, difference)
}

func TestMul(t *testing.T) {
	checkRows(t, Vec.Mul, []row{
		{Vec{one, 2 * one, -3 * one, 0}, Vec{one / 2, 2 * one, 2 * one, 9}, Vec{one / 2, 4 * one, -6 * one, 0}},
		{Vec{1, -1, 3, -3}, Vec{1, 1, one / 2, one / 2}, Vec{0, -1, 1, -2}},
		{Vec{maxQ, maxQ, maxQ + 9, math.MinInt}, Vec{maxQ, -maxQ, one, math.MinInt}, Vec{maxQ, -maxQ, maxQ, maxQ}},
	})
	checkAll(t, Vec.Mul, product)
}

func TestMin(t *testing.T) {
	checkRows(t, Vec.Min, []row{
		{Vec{1, 5, -3, 0}, Vec{2, 4, 3, 0}, Vec{1, 4, -3, 0}},
		{Vec{maxQ + 1, -maxQ - 1, maxQ + 2, 4}, Vec{maxQ + 2, 0, 9, -maxQ - 9}, Vec{maxQ, -maxQ, 9, -maxQ}},
		{Vec{math.MaxInt, math.MinInt, math.MinInt, maxQ}, Vec{math.MaxInt, math.MinInt, math.MaxInt, math.MaxInt}, Vec{maxQ, -maxQ, -maxQ, maxQ}},
	})
	checkAll(t, Vec.Min, smaller)
}

func TestMax(t *testing.T) {
	checkRows(t, Vec.Max, []row{
		{Vec{1, 5, -3, 0}, Vec{2, 4, 3, 0}, Vec{2, 5, 3, 0}},
		{Vec{-maxQ - 1, maxQ + 1, -maxQ - 2, 4}, Vec{-maxQ - 2, 0, -9, maxQ + 9}, Vec{-maxQ, maxQ, -9, maxQ}},
		{Vec{math.MinInt, math.MaxInt, math.MinInt, -maxQ}, Vec{math.MinInt, math.MaxInt, math.MaxInt, math.MinInt}, Vec{-maxQ, maxQ, maxQ, -maxQ}},
	})
	checkAll(t, Vec.Max, greater)
}

func TestDot(t *testing.T) {
	ones := Vec{one, one, one, one}
	rows := []struct {
		a, b Vec
		want int
	}{
		{Vec{1, 2, 3, 4}, ones, 10},
		{Vec{one, 2 * one, -one, 0}, Vec{2 * one, one, one, 9}, 3 * one},
		{Vec{}, Vec{maxQ, maxQ, maxQ, maxQ}, 0},
		// Each product is rounded down before it is added.
		{Vec{1, 1, 1, 1}, Vec{one / 2, one / 2, one / 2, one / 2}, 0},
		{Vec{-1, -1, -1, -1}, Vec{1, 1, 1, 1}, -4},
		// Each sum is clamped before the next product is added, from the first component on.
		{Vec{maxQ, maxQ, -maxQ, -maxQ}, ones, -maxQ},
		{Vec{-maxQ, -maxQ, maxQ, maxQ}, ones, maxQ},
		{Vec{maxQ, 5, -7, 0}, ones, maxQ - 7},
		{Vec{-7, maxQ, 5, 0}, ones, maxQ - 2},
		{Vec{-7, 5, maxQ, 9}, ones, maxQ},
		{Vec{0, -maxQ, -5, 7}, ones, -maxQ + 7},
		{Vec{9, maxQ, 0, -3}, ones, maxQ - 3},
		// Each product is clamped as well.
		{Vec{maxQ, -one, 0, 0}, Vec{maxQ, one, 0, 0}, maxQ - one},
		{Vec{math.MaxInt, math.MinInt, 1, 0}, ones, 1},
		{Vec{math.MinInt, 8, math.MinInt, math.MaxInt}, Vec{one, one, 0, 0}, -maxQ + 8},
	}
	for _, r := range rows {
		if got := r.a.Dot(r.b); got != r.want {
			t.Errorf("P2.1: %v.Dot(%v) = %d, want %d", r.a, r.b, got, r.want)
		}
	}
	vectors := sample(2000)
	for i, a := range vectors[1:] {
		if got, want := a.Dot(vectors[i]), dot(a, vectors[i]); got != want {
			t.Errorf("P2.1: %v.Dot(%v) = %d, want %d", a, vectors[i], got, want)
		}
	}
}

func TestScale(t *testing.T) {
	rows := []struct {
		a    Vec
		n    int
		want Vec
	}{
		{Vec{one, 2 * one, -one, 0}, one / 2, Vec{one / 2, one, -one / 2, 0}},
		{Vec{3, -3, 1, -1}, one / 2, Vec{1, -2, 0, -1}},
		{Vec{5, -5, 0, maxQ}, -one, Vec{-5, 5, 0, -maxQ}},
		{Vec{maxQ, -maxQ, 1, 0}, 0, Vec{}},
		{Vec{maxQ + 9, -maxQ - 9, math.MaxInt, math.MinInt}, one, Vec{maxQ, -maxQ, maxQ, -maxQ}},
		{Vec{one, -one, maxQ, 0}, math.MaxInt, Vec{maxQ, -maxQ, maxQ, 0}},
		{Vec{one, -one, -maxQ, 0}, math.MinInt, Vec{-maxQ, maxQ, maxQ, 0}},
	}
	for _, r := range rows {
		if got := r.a.Scale(r.n); got != r.want {
			t.Errorf("P2.1: %v.Scale(%d) = %v, want %v", r.a, r.n, got, r.want)
		}
	}
	for _, a := range sample(100) {
		for _, n := range numbers() {
			wantVec(t, "P2.1", a.Scale(n), Vec{product(a[0], n), product(a[1], n), product(a[2], n), product(a[3], n)})
		}
	}
}

func TestWithin(t *testing.T) {
	rows := []struct {
		a    Vec
		most int
		want Vec
	}{
		{Vec{3, -3, 5, -9}, 4, Vec{3, -3, 4, -4}},
		{Vec{4, -4, 0, 1}, 4, Vec{4, -4, 0, 1}},
		{Vec{5, -5, 0, math.MinInt}, 0, Vec{}},
		{Vec{math.MaxInt, math.MinInt, 1, -1}, 4, Vec{4, -4, 1, -1}},
		// A bound beyond the fixed-point numbers is a bound like any other: nothing is clamped.
		{Vec{maxQ + 9, -maxQ - 9, 1 << 40, -1 << 40}, 1 << 40, Vec{maxQ + 9, -maxQ - 9, 1 << 40, -1 << 40}},
		{Vec{math.MaxInt, math.MinInt, 7, -7}, math.MaxInt, Vec{math.MaxInt, -math.MaxInt, 7, -7}},
	}
	for _, r := range rows {
		if got := r.a.Within(r.most); got != r.want {
			t.Errorf("P2.1: %v.Within(%d) = %v, want %v", r.a, r.most, got, r.want)
		}
	}
	for _, a := range sample(100) {
		for _, most := range numbers() {
			if most < 0 {
				continue
			}
			var want Vec
			for i, n := range a {
				want[i] = int(limited(exact(n), most).Int64())
			}
			wantVec(t, "P2.1", a.Within(most), want)
		}
	}
}

func TestWithinOfANegativeBound(t *testing.T) {
	wantVec(t, "P2.1", Vec{9, 2, 0, -9}.Within(-4), Vec{4, 4, 4, 4})
	wantVec(t, "P2.1", Vec{math.MaxInt, math.MinInt, 4, -4}.Within(-4), Vec{4, 4, 4, 4})
	wantVec(t, "P2.1", Vec{0, 1, -1, 2}.Within(-1), Vec{1, 1, 1, 1})
	wantVec(t, "P2.1", Vec{}.Within(-math.MaxInt), Vec{math.MaxInt, math.MaxInt, math.MaxInt, math.MaxInt})
}

func TestTimes(t *testing.T) {
	m := Mat{{one, 0, 0, one}, {0, 2 * one, 0, 0}, {0, 0, -one, 0}, {one, one, one, one}}
	wantVec(t, "P2.2", m.Times(Vec{1, 2, 3, 4}), Vec{5, 4, -3, 10})
	wantVec(t, "P2.2", Mat{}.Times(Vec{1, 2, 3, math.MaxInt}), Vec{})
	// A row's sums are clamped one after another.
	m = Mat{{one, one, one, 0}, {one, -one, one, 0}, {0, one, one, one}, {-one, -one, 0, one}}
	wantVec(t, "P2.2", m.Times(Vec{maxQ, maxQ, -9, 5}), Vec{maxQ - 9, -9, maxQ - 4, -maxQ + 5})
	vectors := sample(300)
	for i, m := range sampleMats(300) {
		v := vectors[i]
		wantVec(t, "P2.2", m.Times(v), Vec{dot(m[0], v), dot(m[1], v), dot(m[2], v), dot(m[3], v)})
	}
}

func TestBy(t *testing.T) {
	m := Mat{{1 * one, 2 * one, 3 * one, 4 * one}, {5 * one, 6 * one, 7 * one, 8 * one}, {0, one, 0, 0}, {0, 0, 0, -one}}
	o := Mat{{1, 0, 0, 2}, {0, 1, 0, 3}, {0, 0, 1, 4}, {5, 6, 7, 8}}
	wantMat(t, "P2.2", m.By(o), Mat{{21, 26, 31, 52}, {45, 54, 63, 120}, {0, 1, 0, 3}, {-5, -6, -7, -8}})
	wantMat(t, "P2.2", m.By(Mat{}), Mat{})
	wantMat(t, "P2.2", Mat{}.By(m), Mat{})
	matrices := sampleMats(300)
	for i, m := range matrices[1:] {
		o := matrices[i]
		var want Mat
		for y := range 4 {
			for x := range 4 {
				want[y][x] = dot(m[y], Vec{o[0][x], o[1][x], o[2][x], o[3][x]})
			}
		}
		wantMat(t, "P2.2", m.By(o), want)
	}
}

// By's columns are Times of the other's columns, where the sums are clamped too.
func TestColumnsOfBy(t *testing.T) {
	matrices := sampleMats(100)
	for i, m := range matrices[1:] {
		o := matrices[i]
		product := m.By(o)
		for x := range 4 {
			column := Vec{product[0][x], product[1][x], product[2][x], product[3][x]}
			wantVec(t, "P2.2", column, m.Times(Vec{o[0][x], o[1][x], o[2][x], o[3][x]}))
		}
	}
}

func TestUnit(t *testing.T) {
	wantMat(t, "P2.2", Unit(), Mat{{65536, 0, 0, 0}, {0, 65536, 0, 0}, {0, 0, 65536, 0}, {0, 0, 0, 65536}})
}

func TestUnitTimesAVectorClampsIt(t *testing.T) {
	wantVec(t, "P2.2", Unit().Times(Vec{1, -2, maxQ, -maxQ}), Vec{1, -2, maxQ, -maxQ})
	wantVec(t, "P2.2", Unit().Times(Vec{maxQ + 1, -maxQ - 1, math.MaxInt, math.MinInt}), Vec{maxQ, -maxQ, maxQ, -maxQ})
	for _, v := range sample(500) {
		wantVec(t, "P2.2", Unit().Times(v), clampedVec(v))
	}
}

func TestUnitOnEitherSideClampsAMatrix(t *testing.T) {
	m := Mat{{1, 2, 3, 4}, {5, 6, 7, 8}, {-1, -2, -3, -4}, {maxQ, -maxQ, 0, one}}
	wantMat(t, "P2.2", Unit().By(m), m)
	wantMat(t, "P2.2", m.By(Unit()), m)
	for _, m := range sampleMats(300) {
		wantMat(t, "P2.2", Unit().By(m), clampedMat(m))
		wantMat(t, "P2.2", m.By(Unit()), clampedMat(m))
	}
}

// R6: what a call is given stays as it was, and what it returns is the caller's own.
func TestVectorsAreLeftAsTheyWere(t *testing.T) {
	vectors := sample(100)
	for i := range vectors[1:] {
		a, b := &vectors[i], &vectors[i+1]
		keptA, keptB := *a, *b
		results := []Vec{a.Add(*b), a.Sub(*b), a.Mul(*b), a.Min(*b), a.Max(*b), a.Scale(b[0]), a.Within(b[0]), {a.Dot(*b)}}
		for j := range results {
			results[j][j%4]++
		}
		wantVec(t, "R6", *a, keptA)
		wantVec(t, "R6", *b, keptB)
	}
}

func TestMatricesAreLeftAsTheyWere(t *testing.T) {
	matrices := sampleMats(50)
	for i := range matrices[1:] {
		m, o := &matrices[i], &matrices[i+1]
		keptM, keptO := *m, *o
		image, product := m.Times(o[0]), m.By(*o)
		image[0]++
		product[3][3]++
		wantMat(t, "R6", *m, keptM)
		wantMat(t, "R6", *o, keptO)
	}
}

// R6: a changed unit leaves the next one whole.
func TestUnitIsNewEachTime(t *testing.T) {
	changed := Unit()
	changed[0][3], changed[2][2] = 7, 9
	wantMat(t, "R6", Unit(), Mat{{one, 0, 0, 0}, {0, one, 0, 0}, {0, 0, one, 0}, {0, 0, 0, one}})
}

// P1 and R8: no argument panics, not even where nothing else is promised, and every call answers the same again.
func TestAllArgumentsAnswerTheSameAgain(t *testing.T) {
	methods := []func(a, b Vec) Vec{
		Vec.Add, Vec.Sub, Vec.Mul, Vec.Min, Vec.Max,
		func(a, b Vec) Vec { return Vec{a.Dot(b)} },
		func(a, b Vec) Vec { return a.Scale(b[0]) },
		func(a, b Vec) Vec { return a.Within(b[0]) },
		func(a, b Vec) Vec { return Mat{a, b, b, a}.Times(b) },
		func(a, b Vec) Vec { return Mat{a, b, b, a}.By(Mat{b, a, a, a})[1] },
	}
	vectors := append(sample(300), all(math.MinInt), all(math.MaxInt))
	for i, method := range methods {
		for j, a := range vectors {
			b := vectors[len(vectors)-1-j]
			if method(a, b) != method(a, b) {
				t.Errorf("R8: method %d of %v and %v answers differently", i, a, b)
			}
		}
	}
}
