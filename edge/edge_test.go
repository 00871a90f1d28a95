package edge

import (
	"math"
	"math/big"
	"testing"
)

// numbers are coordinates around every limit, from one end of int to the other.
func numbers() []int {
	list := []int{math.MinInt, math.MinInt + 1, math.MaxInt - 1, math.MaxInt, 0, 1, -1, 7, -8, 1000, -1000}
	for _, n := range []int{1 << 13, 1 << 14, 1 << 15, 1 << 31, 1 << 32, 1 << 62} {
		list = append(list, n-1, n, n+1, -n-1, -n, -n+1)
	}
	return list
}

// source draws from a fixed sequence, so that every run has the same samples.
type source uint32

func (s *source) below(n int) int {
	*s = *s*1664525 + 1013904223
	return int(*s>>8) % n
}

// points returns count points whose coordinates are of the list.
func points(count int, list []int) []Point {
	var s source = 1
	result := make([]Point, count)
	for i := range result {
		result[i] = Point{list[s.below(len(list))], list[s.below(len(list))]}
	}
	return result
}

// triangles returns count triangles whose coordinates are of the list.
func triangles(count int, list []int) []Tri {
	corners := points(3*count, list)
	result := make([]Tri, count)
	for i := range result {
		result[i] = Tri(corners[3*i : 3*i+3])
	}
	return result
}

// grid returns every point whose coordinates are of the list.
func grid(list []int) []Point {
	var result []Point
	for _, y := range list {
		for _, x := range list {
			result = append(result, Point{x, y})
		}
	}
	return result
}

// The expected results are computed with big integers, where nothing can overflow.

type exactPoint struct {
	x, y *big.Int
}

func exact(n int) *big.Int { return big.NewInt(int64(n)) }

func nearest(n int) int {
	if n < -16384 {
		return -16384
	}
	if n > 16384 {
		return 16384
	}
	return n
}

func nearestPoint(p Point) Point { return Point{nearest(p.X), nearest(p.Y)} }

func exactOf(p Point) exactPoint { return exactPoint{exact(nearest(p.X)), exact(nearest(p.Y))} }

func difference(a, b *big.Int) *big.Int { return new(big.Int).Sub(a, b) }

func product(a, b *big.Int) *big.Int { return new(big.Int).Mul(a, b) }

func exactSide(a, b, c exactPoint) *big.Int {
	return difference(
		product(difference(b.x, a.x), difference(c.y, a.y)),
		product(difference(b.y, a.y), difference(c.x, a.x)))
}

func sideOf(a, b, c Point) int {
	return int(exactSide(exactOf(a), exactOf(b), exactOf(c)).Int64())
}

// scaled returns p on a picture that is 2^80 times as great, moved right by right, and down by down.
func scaled(p Point, right, down int) exactPoint {
	e := exactOf(p)
	e.x.Lsh(e.x, 80).Add(e.x, exact(right))
	e.y.Lsh(e.y, 80).Add(e.y, exact(down))
	return e
}

// covers decides by another way than Owns does: a point on an edge belongs to the triangle that is entered
// by the least step to the right, and, if that step goes along the edge, by a step down that is smaller still.
func covers(t Tri, p Point) bool {
	stepped := scaled(p, 1<<40, 1)
	for i := range t {
		a, b := scaled(t[i], 0, 0), scaled(t[(i+1)%3], 0, 0)
		if exactSide(a, b, stepped).Sign() <= 0 {
			return false
		}
	}
	return true
}

// The triangle of the chapter's examples: its upper and its left edge are owned, its third is not.
func example() Tri { return Tri{{0, 0}, {16, 0}, {0, 16}} }

func TestFar(t *testing.T) {
	if Far != 16384 {
		t.Errorf("P3.1: Far = %d, want 16384", Far)
	}
}

func TestSide(t *testing.T) {
	rows := []struct {
		a, b, c Point
		want    int
	}{
		{Point{0, 0}, Point{16, 0}, Point{0, 16}, 256},
		{Point{0, 0}, Point{16, 0}, Point{0, -16}, -256},
		{Point{0, 0}, Point{0, 16}, Point{16, 0}, -256},
		{Point{0, 0}, Point{0, -16}, Point{16, 0}, 256},
		{Point{2, 3}, Point{7, 11}, Point{-4, 13}, 98},
		{Point{-1, -2}, Point{-3, 5}, Point{4, -6}, -27},
		// On the line, on either end, behind both, and of a way of no length.
		{Point{0, 0}, Point{4, 6}, Point{2, 3}, 0},
		{Point{0, 0}, Point{4, 6}, Point{0, 0}, 0},
		{Point{0, 0}, Point{4, 6}, Point{4, 6}, 0},
		{Point{0, 0}, Point{4, 6}, Point{-6, -9}, 0},
		{Point{5, 5}, Point{5, 5}, Point{9, -9}, 0},
		{Point{-Far, -Far}, Point{Far, -Far}, Point{-Far, Far}, 1 << 30},
		{Point{-Far, -Far}, Point{-Far, Far}, Point{Far, -Far}, -1 << 30},
		{Point{-Far, Far}, Point{Far, -Far}, Point{Far, Far}, 1 << 30},
	}
	for _, r := range rows {
		if got := Side(r.a, r.b, r.c); got != r.want {
			t.Errorf("P3.1: Side(%v, %v, %v) = %d, want %d", r.a, r.b, r.c, got, r.want)
		}
	}
}

func TestSideLimitsEachCoordinate(t *testing.T) {
	least := Point{math.MinInt, math.MinInt}
	rows := []struct {
		a, b, c Point
		want    int
	}{
		{Point{0, 0}, Point{Far + 1, 0}, Point{0, 1}, Far},
		{Point{0, 0}, Point{-Far - 1, 0}, Point{0, 1}, -Far},
		{Point{0, 0}, Point{0, Far + 1}, Point{1, 0}, -Far},
		{Point{0, 0}, Point{0, -Far - 1}, Point{1, 0}, Far},
		{Point{0, 0}, Point{1, 0}, Point{0, Far + 1}, Far},
		{Point{0, 0}, Point{0, 1}, Point{Far + 1, 0}, -Far},
		{Point{Far + 1, 0}, Point{0, 0}, Point{0, 1}, -Far},
		{Point{0, Far + 1}, Point{0, 0}, Point{1, 0}, Far},
		// Only what is beyond is moved: the other coordinate stays.
		{Point{0, 3}, Point{1 << 40, 5}, Point{0, 7}, 4 * Far},
		{least, Point{math.MaxInt, math.MinInt}, Point{math.MinInt, math.MaxInt}, 1 << 30},
		{least, Point{-Far, -Far}, Point{Far, 0}, 0},
		{least, least, least, 0},
	}
	for _, r := range rows {
		if got := Side(r.a, r.b, r.c); got != r.want {
			t.Errorf("P3.1: Side(%v, %v, %v) = %d, want %d", r.a, r.b, r.c, got, r.want)
		}
	}
}

func TestSideOfSamples(t *testing.T) {
	for _, p := range triangles(20000, numbers()) {
		if got, want := Side(p[0], p[1], p[2]), sideOf(p[0], p[1], p[2]); got != want {
			t.Errorf("P3.1: Side%v = %d, want %d", p, got, want)
		}
	}
}

func TestOwns(t *testing.T) {
	rows := []struct {
		a, b Point
		want bool
	}{
		{Point{0, 0}, Point{5, 0}, true},   // to the right
		{Point{0, 0}, Point{-5, 0}, false}, // to the left
		{Point{0, 0}, Point{0, -5}, true},  // up
		{Point{0, 0}, Point{0, 5}, false},  // down
		{Point{0, 0}, Point{5, -5}, true},
		{Point{0, 0}, Point{-5, -5}, true},
		{Point{0, 0}, Point{5, 5}, false},
		{Point{0, 0}, Point{-5, 5}, false},
		{Point{0, 0}, Point{Far, 1}, false},
		{Point{0, 0}, Point{-Far, -1}, true},
		{Point{3, 4}, Point{3, 4}, false},
		{Point{-9, -7}, Point{-8, -7}, true},
		{Point{-9, -7}, Point{-9, -8}, true},
		{Point{-9, -7}, Point{-9, -6}, false},
	}
	for _, r := range rows {
		if got := Owns(r.a, r.b); got != r.want {
			t.Errorf("P3.1: Owns(%v, %v) = %v, want %v", r.a, r.b, got, r.want)
		}
	}
}

func TestOwnsLimitsEachCoordinate(t *testing.T) {
	rows := []struct {
		a, b Point
		want bool
	}{
		// Both lie at the limit, so that neither is above or to the right of the other.
		{Point{0, -Far}, Point{0, -Far - 1}, false},
		{Point{0, Far + 1}, Point{0, Far}, false},
		{Point{Far, 0}, Point{Far + 1, 0}, false},
		{Point{-Far - 1, 0}, Point{-Far, 0}, false},
		{Point{math.MinInt, math.MaxInt}, Point{-Far, Far}, false},
		// Both lie at one height at the limit, so that the columns decide.
		{Point{0, Far + 9}, Point{5, Far}, true},
		{Point{0, Far}, Point{5, Far + 9}, true},
		{Point{5, Far + 9}, Point{0, Far}, false},
		{Point{0, -Far}, Point{-5, math.MinInt}, false},
		{Point{0, 0}, Point{math.MaxInt, 0}, true},
		{Point{0, 0}, Point{math.MinInt, 0}, false},
		{Point{0, math.MaxInt}, Point{0, math.MinInt}, true},
		{Point{0, math.MinInt}, Point{0, math.MaxInt}, false},
	}
	for _, r := range rows {
		if got := Owns(r.a, r.b); got != r.want {
			t.Errorf("P3.1: Owns(%v, %v) = %v, want %v", r.a, r.b, got, r.want)
		}
	}
}

// Of the two ways along one edge exactly one is owned.
func TestOwnsOneWayOfTwo(t *testing.T) {
	all := grid([]int{math.MinInt, -Far - 1, -Far, -1, 0, 1, Far, Far + 1, math.MaxInt})
	for _, a := range all {
		for _, b := range all {
			apart := nearestPoint(a) != nearestPoint(b)
			if (Owns(a, b) != Owns(b, a)) != apart || Owns(a, b) && Owns(b, a) {
				t.Errorf("P3.1: of the ways between %v and %v: Owns %v and %v", a, b, Owns(a, b), Owns(b, a))
			}
		}
	}
}

func TestArea(t *testing.T) {
	rows := []struct {
		t    Tri
		want int
	}{
		{example(), 256},
		{example().Turned(), -256},
		{Tri{{5, 5}, {9, 6}, {4, 12}}, 29},
		{Tri{{-5, -5}, {-9, -6}, {-4, -12}}, 29},
		{Tri{}, 0},
		{Tri{{3, 4}, {3, 4}, {9, 9}}, 0},
		{Tri{{3, 4}, {9, 9}, {3, 4}}, 0},
		{Tri{{9, 9}, {3, 4}, {3, 4}}, 0},
		{Tri{{0, 0}, {2, 3}, {4, 6}}, 0},
		{Tri{{-Far, -Far}, {Far, -Far}, {Far, Far}}, 1 << 30},
		{Tri{{math.MinInt, math.MinInt}, {math.MaxInt, math.MinInt}, {math.MaxInt, math.MaxInt}}, 1 << 30},
		{Tri{{math.MinInt, math.MinInt}, {math.MaxInt, math.MaxInt}, {math.MaxInt, math.MinInt}}, -1 << 30},
		// Right as it is written, but of no area within the limits.
		{Tri{{Far, 0}, {Far + 100, 50}, {Far, 100}}, 0},
	}
	for _, r := range rows {
		if got := r.t.Area(); got != r.want {
			t.Errorf("P3.1: %v.Area() = %d, want %d", r.t, got, r.want)
		}
	}
	for _, x := range triangles(20000, numbers()) {
		if got, want := x.Area(), sideOf(x[0], x[1], x[2]); got != want {
			t.Errorf("P3.1: %v.Area() = %d, want %d", x, got, want)
		}
	}
}

func TestTurned(t *testing.T) {
	rows := []struct {
		t, want Tri
	}{
		{example(), Tri{{0, 0}, {0, 16}, {16, 0}}},
		{Tri{{1, 2}, {3, 4}, {5, 6}}, Tri{{1, 2}, {5, 6}, {3, 4}}},
		{Tri{}, Tri{}},
		// Coordinates beyond the limits stay as they are.
		{Tri{{Far + 1, -Far - 1}, {Far + 2, -Far - 2}, {Far + 3, -Far - 3}}, Tri{{Far + 1, -Far - 1}, {Far + 3, -Far - 3}, {Far + 2, -Far - 2}}},
		{Tri{{math.MinInt, 1}, {2, math.MaxInt}, {math.MaxInt, math.MinInt}}, Tri{{math.MinInt, 1}, {math.MaxInt, math.MinInt}, {2, math.MaxInt}}},
	}
	for _, r := range rows {
		if got := r.t.Turned(); got != r.want {
			t.Errorf("P3.1: %v.Turned() = %v, want %v", r.t, got, r.want)
		}
	}
	for _, x := range triangles(1000, numbers()) {
		turned := x.Turned()
		if turned != (Tri{x[0], x[2], x[1]}) || turned.Turned() != x {
			t.Errorf("P3.1: %v.Turned() = %v", x, turned)
		}
		if turned.Area() != -x.Area() {
			t.Errorf("P3.1: the area of %v is %d, turned %d", x, x.Area(), turned.Area())
		}
	}
}

func TestWeights(t *testing.T) {
	rows := []struct {
		t    Tri
		p    Point
		want [3]int
	}{
		{example(), Point{4, 4}, [3]int{128, 64, 64}},
		{example(), Point{2, 5}, [3]int{144, 32, 80}},
		// At each corner, on each edge, and outside of each edge.
		{example(), Point{0, 0}, [3]int{256, 0, 0}},
		{example(), Point{16, 0}, [3]int{0, 256, 0}},
		{example(), Point{0, 16}, [3]int{0, 0, 256}},
		{example(), Point{8, 8}, [3]int{0, 128, 128}},
		{example(), Point{0, 4}, [3]int{192, 0, 64}},
		{example(), Point{4, 0}, [3]int{192, 64, 0}},
		{example(), Point{9, 9}, [3]int{-32, 144, 144}},
		{example(), Point{-1, 4}, [3]int{208, -16, 64}},
		{example(), Point{4, -1}, [3]int{208, 64, -16}},
		{example().Turned(), Point{2, 5}, [3]int{-144, -80, -32}},
		{Tri{{0, 0}, {2, 0}, {4, 0}}, Point{1, 1}, [3]int{2, -4, 2}},
		{Tri{}, Point{5, 6}, [3]int{}},
		// A point or a corner beyond the limits is taken at the limit.
		{Tri{{-Far, -Far}, {Far, -Far}, {-Far, Far}}, Point{math.MinInt, math.MinInt}, [3]int{1 << 30, 0, 0}},
		{Tri{{math.MinInt, math.MinInt}, {math.MaxInt, math.MinInt}, {math.MinInt, math.MaxInt}}, Point{Far, -Far}, [3]int{0, 1 << 30, 0}},
		{example(), Point{Far + 1, 0}, [3]int{256 - 16*Far, 16 * Far, 0}},
	}
	for _, r := range rows {
		if got := r.t.Weights(r.p); got != r.want {
			t.Errorf("P3.1: %v.Weights(%v) = %v, want %v", r.t, r.p, got, r.want)
		}
	}
	corners := points(20000, numbers())
	for i, x := range triangles(20000, numbers()) {
		p := corners[len(corners)-1-i]
		want := [3]int{sideOf(x[1], x[2], p), sideOf(x[2], x[0], p), sideOf(x[0], x[1], p)}
		if got := x.Weights(p); got != want {
			t.Errorf("P3.1: %v.Weights(%v) = %v, want %v", x, p, got, want)
		}
	}
}

type cover struct {
	p    Point
	want bool
}

func checkCovers(t *testing.T, x Tri, rows []cover) {
	t.Helper()
	for _, r := range rows {
		// Which of the points is the first one does not matter.
		for _, y := range []Tri{x, {x[1], x[2], x[0]}, {x[2], x[0], x[1]}} {
			if got := y.Covers(r.p); got != r.want {
				t.Errorf("P3.1: %v.Covers(%v) = %v, want %v", y, r.p, got, r.want)
			}
		}
	}
}

func TestCoversInsideAndOutside(t *testing.T) {
	checkCovers(t, example(), []cover{
		{Point{1, 1}, true}, {Point{4, 4}, true}, {Point{7, 8}, true}, {Point{14, 1}, true}, {Point{1, 14}, true},
		{Point{-1, 4}, false}, {Point{4, -1}, false}, {Point{9, 8}, false}, {Point{8, 9}, false},
		{Point{16, 16}, false}, {Point{-1, -1}, false}, {Point{17, 0}, false}, {Point{0, 17}, false},
	})
	checkCovers(t, Tri{{-9, -9}, {5, -2}, {-3, 7}}, []cover{
		{Point{0, 0}, true}, {Point{-5, -5}, true}, {Point{-3, 6}, true}, {Point{4, -2}, true},
		{Point{-9, 0}, false}, {Point{5, 5}, false}, {Point{-2, 7}, false}, {Point{0, -9}, false},
	})
}

func TestCoversPointsOnEdgesAndAtCorners(t *testing.T) {
	// Owned: the upper and the left edge.
	checkCovers(t, example(), []cover{
		{Point{0, 0}, true}, {Point{16, 0}, false}, {Point{0, 16}, false},
		{Point{8, 0}, true}, {Point{15, 0}, true}, {Point{0, 8}, true}, {Point{0, 15}, true},
		{Point{8, 8}, false}, {Point{15, 1}, false}, {Point{1, 15}, false},
	})
	// Owned: the left edge alone, which leans.
	checkCovers(t, Tri{{16, 0}, {16, 16}, {0, 16}}, []cover{
		{Point{8, 8}, true}, {Point{15, 1}, true}, {Point{1, 15}, true},
		{Point{16, 8}, false}, {Point{8, 16}, false},
		{Point{16, 0}, false}, {Point{16, 16}, false}, {Point{0, 16}, false},
	})
	// Owned: both edges to the left, which meet in a corner that is covered.
	checkCovers(t, Tri{{0, 0}, {8, 16}, {-8, 8}}, []cover{
		{Point{-4, 4}, true}, {Point{0, 12}, true}, {Point{4, 8}, false},
		{Point{-8, 8}, true}, {Point{0, 0}, false}, {Point{8, 16}, false},
	})
	// Owned: the left edge, upright; neither of the edges to the right.
	checkCovers(t, Tri{{0, 0}, {16, 8}, {0, 16}}, []cover{
		{Point{0, 8}, true}, {Point{8, 4}, false}, {Point{8, 12}, false},
		{Point{0, 0}, false}, {Point{16, 8}, false}, {Point{0, 16}, false},
	})
}

func TestCoversNothingIfNotRight(t *testing.T) {
	flat := []Tri{
		example().Turned(),
		{{16, 0}, {0, 16}, {16, 16}},
		{},
		{{4, 4}, {4, 4}, {4, 4}},
		{{0, 0}, {4, 4}, {0, 0}},
		{{0, 4}, {4, 4}, {8, 4}},
		{{8, 4}, {4, 4}, {0, 4}},
		{{4, 0}, {4, 4}, {4, 8}},
		{{4, 8}, {4, 4}, {4, 0}},
		{{0, 0}, {4, 4}, {8, 8}},
		{{8, 8}, {4, 4}, {0, 0}},
		// Right as they are written, but not within the limits.
		{{Far, 0}, {Far + 100, 50}, {Far, 100}},
		{{0, -Far - 100}, {50, -Far}, {0, -Far}},
		{{math.MaxInt, 0}, {math.MaxInt, 1}, {math.MaxInt - 1, 1}},
	}
	for _, x := range flat {
		if x.Area() > 0 {
			t.Fatalf("%v is right", x)
		}
		samples := append(grid([]int{-1, 0, 2, 4, 6, 8, 16, 50, Far, Far + 50, -Far, -Far - 50}), x[0], x[1], x[2])
		for _, p := range samples {
			if x.Covers(p) {
				t.Errorf("P3.1: %v.Covers(%v)", x, p)
			}
		}
	}
}

func TestCoversLimitsEachCoordinate(t *testing.T) {
	// The upper left half of all there is: its upper and its left edge are owned.
	half := Tri{{-Far, -Far}, {Far, -Far}, {-Far, Far}}
	beyond := Tri{{math.MinInt, -Far - 1}, {math.MaxInt, math.MinInt}, {-Far - 1, math.MaxInt}}
	for _, x := range []Tri{half, beyond} {
		checkCovers(t, x, []cover{
			{Point{-1, 0}, true}, {Point{0, 0}, false}, {Point{1, -2}, true}, {Point{1, -1}, false},
			{Point{-Far - 1, 0}, true}, {Point{0, -Far - 1}, true}, {Point{math.MinInt, math.MinInt}, true},
			{Point{math.MaxInt, math.MinInt}, false}, {Point{math.MinInt, math.MaxInt}, false},
			{Point{Far + 1, Far + 1}, false}, {Point{math.MaxInt, math.MaxInt}, false},
		})
	}
	// The lower right half owns nothing at the limits but what leans.
	checkCovers(t, Tri{{Far, -Far}, {Far, Far}, {-Far, Far}}, []cover{
		{Point{0, 0}, true}, {Point{-1, 0}, false}, {Point{Far + 1, 0}, false}, {Point{0, Far + 1}, false},
		{Point{Far - 1, Far - 1}, true}, {Point{math.MaxInt, math.MaxInt}, false},
	})
}

func TestCoversSamples(t *testing.T) {
	lists := [][]int{numbers(), {-3, -2, -1, 0, 1, 2, 3}, {-Far - 1, -Far, -Far + 1, 0, Far - 1, Far, Far + 1}}
	for _, list := range lists {
		samples := points(15000, list)
		covered := 0
		for i, x := range triangles(15000, list) {
			p := samples[len(samples)-1-i]
			got, want := x.Covers(p), covers(x, p)
			if got != want {
				t.Errorf("P3.1: %v.Covers(%v) = %v, want %v", x, p, got, want)
			}
			if want {
				covered++
			}
		}
		if covered < 300 {
			t.Errorf("only %d of the samples are covered", covered)
		}
	}
}

func TestBox(t *testing.T) {
	rows := []struct {
		t               Tri
		least, greatest Point
	}{
		{example(), Point{0, 0}, Point{16, 16}},
		{example().Turned(), Point{0, 0}, Point{16, 16}},
		{Tri{{5, -7}, {-3, 9}, {2, 1}}, Point{-3, -7}, Point{5, 9}},
		{Tri{{1, 1}, {3, 2}, {2, 3}}, Point{1, 1}, Point{3, 3}},
		{Tri{{-1, -4}, {-3, -2}, {-2, -3}}, Point{-3, -4}, Point{-1, -2}},
		{Tri{{4, 4}, {4, 4}, {4, 4}}, Point{4, 4}, Point{4, 4}},
		{Tri{{0, 0}, {4, 6}, {2, 3}}, Point{0, 0}, Point{4, 6}},
		{Tri{}, Point{}, Point{}},
		{Tri{{-Far, Far}, {Far, -Far}, {0, 0}}, Point{-Far, -Far}, Point{Far, Far}},
		{Tri{{Far + 1, 5}, {-Far - 1, Far + 9}, {0, -Far - 9}}, Point{-Far, -Far}, Point{Far, Far}},
		{Tri{{math.MaxInt, 3}, {math.MaxInt, 4}, {Far + 1, math.MinInt}}, Point{Far, -Far}, Point{Far, 4}},
		{Tri{{math.MinInt, math.MinInt}, {math.MinInt, math.MinInt}, {-1 << 40, -1 << 40}}, Point{-Far, -Far}, Point{-Far, -Far}},
	}
	for _, r := range rows {
		if least, greatest := r.t.Box(); least != r.least || greatest != r.greatest {
			t.Errorf("P3.1: %v.Box() = %v, %v, want %v, %v", r.t, least, greatest, r.least, r.greatest)
		}
	}
}

func TestBoxOfSamples(t *testing.T) {
	for _, x := range triangles(20000, numbers()) {
		a, b, c := nearestPoint(x[0]), nearestPoint(x[1]), nearestPoint(x[2])
		wantLeast := Point{min(a.X, b.X, c.X), min(a.Y, b.Y, c.Y)}
		wantGreatest := Point{max(a.X, b.X, c.X), max(a.Y, b.Y, c.Y)}
		if least, greatest := x.Box(); least != wantLeast || greatest != wantGreatest {
			t.Errorf("P3.1: %v.Box() = %v, %v, want %v, %v", x, least, greatest, wantLeast, wantGreatest)
		}
	}
}

// inside reports whether p lies in the interior of the edge from a to b.
func inside(a, b, p Point) bool {
	a, b, p = nearestPoint(a), nearestPoint(b), nearestPoint(p)
	onLine := (b.X-a.X)*(p.Y-a.Y) == (b.Y-a.Y)*(p.X-a.X)
	along := (b.X-a.X)*(p.X-a.X) + (b.Y-a.Y)*(p.Y-a.Y)
	length := (b.X-a.X)*(b.X-a.X) + (b.Y-a.Y)*(b.Y-a.Y)
	return onLine && 0 < along && along < length
}

// checkNeighbours holds P3.2 for every two right triangles of the points of a grid that have the edge from a to b
// in common, at every point of that grid; it returns how many points in the interior of an edge it saw.
func checkNeighbours(t *testing.T, all []Point) (interior int) {
	t.Helper()
	for _, a := range all {
		for _, b := range all {
			rights, lefts := onBothSides(a, b, all)
			for _, p := range all {
				onEdge := inside(a, b, p)
				for _, right := range rights {
					covered := right.Covers(p)
					for _, left := range lefts {
						if covered && left.Covers(p) {
							t.Errorf("P3.2: both of %v and %v cover %v", right, left, p)
						}
						if onEdge && covered == left.Covers(p) {
							t.Errorf("P3.2: not one of %v and %v covers %v", right, left, p)
						}
					}
				}
				if onEdge && len(rights) > 0 && len(lefts) > 0 {
					interior++
				}
			}
		}
	}
	return interior
}

// onBothSides returns the right triangles of the points that have the edge from a to b, on its right and on its left.
func onBothSides(a, b Point, all []Point) (rights, lefts []Tri) {
	for _, c := range all {
		switch side := sideOf(a, b, c); {
		case side > 0:
			rights = append(rights, Tri{a, b, c})
		case side < 0:
			lefts = append(lefts, Tri{c, b, a})
		}
	}
	return rights, lefts
}

func TestNeighboursShareNoPoint(t *testing.T) {
	grids := [][]int{{0, 1, 2, 3}, {-6, -2, 0, 2}, {-Far, 0, 1, Far}}
	for _, list := range grids {
		if interior := checkNeighbours(t, grid(list)); interior < 30 {
			t.Errorf("only %d points in the interior of an edge of %v", interior, list)
		}
	}
}

// Neighbours whose points lie beyond the limits are neighbours there too.
func TestNeighboursBeyondTheLimitsShareNoPoint(t *testing.T) {
	lists := [][]int{{math.MinInt, -Far, 0, math.MaxInt}, {-Far - 7, -1, 1, Far + 7}}
	for _, list := range lists {
		if interior := checkNeighbours(t, grid(list)); interior < 10 {
			t.Errorf("only %d points in the interior of an edge of %v", interior, list)
		}
	}
}

// Each direction of a common edge: its middle is covered by one of both neighbours, and by which one.
func TestMiddleOfACommonEdge(t *testing.T) {
	rows := []struct {
		b       Point // the edge leads from (0, 0) to it
		onRight bool  // the triangle on the right covers its middle
	}{
		{Point{8, 0}, true}, {Point{-8, 0}, false}, {Point{0, -8}, true}, {Point{0, 8}, false},
		{Point{8, -8}, true}, {Point{8, 8}, false}, {Point{-8, 8}, false}, {Point{-8, -8}, true},
		{Point{8, -2}, true}, {Point{2, 8}, false}, {Point{-8, 2}, false}, {Point{-2, -8}, true},
	}
	for _, r := range rows {
		middle := Point{r.b.X / 2, r.b.Y / 2}
		right := Tri{{}, r.b, {-r.b.Y, r.b.X}}
		left := Tri{r.b, {}, {r.b.Y, -r.b.X}}
		if right.Area() <= 0 || left.Area() <= 0 {
			t.Fatalf("%v or %v is not right", right, left)
		}
		if right.Covers(middle) != r.onRight || left.Covers(middle) == r.onRight {
			t.Errorf("P3.2: %v at the edge to %v: covered on the right %v, on the left %v",
				middle, r.b, right.Covers(middle), left.Covers(middle))
		}
	}
}

// R6: what a call is given stays as it was, and what it returns is the caller's own.
func TestArgumentsAreLeftAsTheyWere(t *testing.T) {
	samples := points(300, numbers())
	for i, x := range triangles(300, numbers()) {
		p, kept := &samples[i], samples[i]
		y := &x
		keptTri := x
		turned, weights := y.Turned(), y.Weights(*p)
		least, greatest := y.Box()
		y.Area()
		y.Covers(*p)
		Side(*p, y[0], y[1])
		Owns(*p, y[2])
		turned[0].X, turned[2].Y = 3, 4
		weights[1]++
		least.X++
		greatest.Y++
		if *y != keptTri || *p != kept {
			t.Errorf("R6: %v and %v became %v and %v", keptTri, kept, *y, *p)
		}
	}
}

// answers holds all that the functions tell of a triangle and a point.
type answers struct {
	side, area      int
	owns, covers    bool
	turned          Tri
	weights         [3]int
	least, greatest Point
}

func ask(x Tri, p Point) answers {
	least, greatest := x.Box()
	return answers{
		Side(p, x[0], x[2]), x.Area(), Owns(p, x[1]), x.Covers(p),
		x.Turned(), x.Weights(p), least, greatest,
	}
}

// P1 and R8: no argument panics, and every call answers the same again, whatever was asked in between.
func TestAllArgumentsAnswerTheSameAgain(t *testing.T) {
	samples := points(3000, numbers())
	all := triangles(3000, numbers())
	first := make([]answers, len(all))
	for i, x := range all {
		first[i] = ask(x, samples[len(samples)-1-i])
	}
	for i, x := range all {
		if again := ask(x, samples[len(samples)-1-i]); again != first[i] {
			t.Errorf("R8: %v answers %v, then %v", x, first[i], again)
		}
	}
}
