package setup

import (
	"math"
	"math/big"
	"testing"

	"azulejo/api"
	"azulejo/clip"
	"azulejo/edge"
	"azulejo/state"
	"azulejo/vec"
)

// source draws from a fixed sequence, so that every run has the same samples.
type source uint32

func (s *source) below(n int) int {
	*s = *s*1664525 + 1013904223
	return int(*s>>8) % n
}

// around draws a number that is at most some distance from another.
func (s *source) around(n, far int) int { return n + s.below(2*far+1) - far }

// edges are numbers at which something changes: signs, the limits of each range, and of int.
var edges = []int{
	0, 1, -1, 2, 63, 64, 65, 255, 256, 257, 1023, 1024, 1025, 16383, 16384, 16385, -16383, -16384, -16385,
	65534, 65535, 65536, 65537, -65536, 4194303, 4194304, 4194305, -4194303, -4194304, -4194305,
	2147483647, -2147483648, 1 << 40, -1 << 40, 1 << 62, -1 << 62, math.MaxInt, math.MinInt,
}

// number draws an edge, a number near 0, or one of some distance.
func (s *source) number(far int) int {
	switch s.below(4) {
	case 0:
		return edges[s.below(len(edges))]
	case 1:
		return s.around(0, 9)
	}
	return s.around(0, far)
}

func (s *source) vector(far int) (v vec.Vec) {
	for i := range v {
		v[i] = s.number(far)
	}
	return v
}

func (s *source) vertex() clip.Vertex {
	v := clip.Vertex{Place: s.vector([]int{300, 5000, 5000000}[s.below(3)]), Colour: s.vector(70000)}
	if s.below(2) == 0 {
		v.Place[3] = 256 + s.below(5000)
	}
	return v
}

// corner draws a corner whose numbers are, mostly, in their ranges.
func (s *source) corner() Corner {
	far := []int{40, 1000, 20000}[s.below(3)]
	c := Corner{
		Point:  edge.Point{X: s.around(300, far), Y: s.around(300, far)},
		Depth:  s.below(65536),
		Far:    1 + s.below([]int{10, 2000, 1 << 22}[s.below(3)]),
		Colour: vec.Vec{s.below(65537), s.below(65537), s.below(65537), s.below(65537)},
	}
	if s.below(3) == 0 {
		c.Point, c.Depth, c.Far = edge.Point{X: s.number(far), Y: s.number(far)}, s.number(70000), s.number(5000000)
		c.Colour = s.vector(70000)
	}
	return c
}

// tri draws a triangle that Make makes.
func (s *source) tri() Tri {
	for {
		if t, ok := Make(s.corner(), s.corner(), s.corner(), state.None); ok {
			return t
		}
	}
}

// The models compute with big integers, where nothing can overflow.

func exact(n int) *big.Int { return big.NewInt(int64(n)) }

func limit(n, low, high int) int { return max(low, min(n, high)) }

// quotient returns a b / c rounded down (Euclid's division does so, as c is above 0), limited to a range.
func quotient(a, b, c, plus, sign, low, high int) int {
	n := new(big.Int).Mul(exact(a), exact(b))
	n.Div(n, exact(c)).Mul(n, exact(sign)).Add(n, exact(plus))
	switch {
	case n.Cmp(exact(low)) < 0:
		return low
	case n.Cmp(exact(high)) > 0:
		return high
	}
	return int(n.Int64())
}

func modelColour(v vec.Vec) vec.Vec {
	for i, n := range v {
		v[i] = limit(n, 0, 65536)
	}
	return v
}

func modelOf(v clip.Vertex, w, h int) (c Corner) {
	w, h = limit(w, 1, 64), limit(h, 1, 64)
	c.Far = max(v.Place[3], 256)
	x, y, z := limit(v.Place[0], -4194304, 4194304), limit(v.Place[1], -4194304, 4194304), limit(v.Place[2], -4194304, 4194304)
	c.X = quotient(8*w, x, c.Far, 8*w, 1, -16384, 16384)
	c.Y = quotient(8*h, y, c.Far, 8*h, -1, -16384, 16384)
	c.Depth = quotient(65535, z, c.Far, 0, 1, 0, 65535)
	c.Colour = modelColour(v.Colour)
	return c
}

func modelMake(corners [3]Corner, cull state.Cull) (t Tri, ok bool) {
	for i, c := range corners {
		corners[i].Point = edge.Point{X: limit(c.X, -16384, 16384), Y: limit(c.Y, -16384, 16384)}
		corners[i].Far = max(c.Far, 1)
	}
	a, b, c := corners[0], corners[1], corners[2]
	area := (b.X-a.X)*(c.Y-a.Y) - (b.Y-a.Y)*(c.X-a.X)
	if area == 0 || area < 0 && cull == 1 || area > 0 && cull == 2 {
		return Tri{}, false
	}
	if area < 0 {
		corners = [3]Corner{a, c, b}
	}
	least := 4194304
	for _, c := range corners {
		least = min(least, c.Far)
	}
	for i, c := range corners {
		t.Tri[i], t.Depth[i], t.Colour[i] = c.Point, limit(c.Depth, 0, 65535), modelColour(c.Colour)
		t.Near[i] = quotient(1024, least, c.Far, 0, 1, 1, 1024)
	}
	return t, true
}

// mean returns the sum of the weights times the numbers, divided by the sum of the weights, rounded down.
func mean(weights [3]*big.Int, numbers [3]int) int {
	sum, whole := new(big.Int), new(big.Int)
	for i, weight := range weights {
		whole.Add(whole, weight)
		sum.Add(sum, new(big.Int).Mul(weight, exact(numbers[i])))
	}
	return int(sum.Div(sum, whole).Int64())
}

// modelAt tells of a triangle that Check lets pass.
func modelAt(t Tri, x, y int) (depth int, colour vec.Vec, ok bool) {
	p := edge.Point{X: 16*limit(x, -1, 64) + 8, Y: 16*limit(y, -1, 64) + 8}
	if !t.Tri.Covers(p) {
		return 0, vec.Vec{}, false
	}
	var plain, near [3]*big.Int
	for i, weight := range t.Tri.Weights(p) {
		plain[i] = exact(weight)
		near[i] = new(big.Int).Mul(exact(weight), exact(t.Near[i]))
	}
	for i := range colour {
		colour[i] = mean(near, [3]int{t.Colour[0][i], t.Colour[1][i], t.Colour[2][i]})
	}
	return mean(plain, t.Depth), colour, true
}

// R6 and R8: what a call is given stays, what it returned is not kept, and the same call answers the same again.
func TestArgumentsStayAndAnswersRepeat(t *testing.T) {
	var s source = 3
	for range 3000 {
		v, w, h := s.vertex(), s.number(70), s.number(70)
		corners, cull := [3]Corner{s.corner(), s.corner(), s.corner()}, state.Cull(s.below(3))
		made, x, y := s.tri(), s.below(66)-1, s.below(66)-1
		keptV, keptCorners, keptMade := v, corners, made
		c := Of(v, w, h)
		m, ok := Make(corners[0], corners[1], corners[2], cull)
		depth, colour, in := made.At(x, y)
		err := made.Check()
		if v != keptV || corners != keptCorners || made != keptMade {
			t.Fatalf("R6: %v, %v or %v became %v, %v or %v", keptV, keptCorners, keptMade, v, corners, made)
		}
		if again := Of(v, w, h); again != c {
			t.Errorf("R8: Of(%v, %d, %d) is %v, then %v", v, w, h, c, again)
		}
		if again, still := Make(corners[0], corners[1], corners[2], cull); again != m || still != ok {
			t.Errorf("R8: Make of %v is %v, %v, then %v, %v", corners, m, ok, again, still)
		}
		d, col, still := made.At(x, y)
		if d != depth || col != colour || still != in || made.Check() != err {
			t.Errorf("R8: %v at (%d, %d): %d, %v, %v, then %d, %v, %v", made, x, y, depth, colour, in, d, col, still)
		}
	}
}

// P1: no arguments panic, also of triangles that Check does not let pass.
func TestNoTrianglePanics(t *testing.T) {
	var s source = 11
	for range 20000 {
		var x Tri
		for i := range 3 {
			x.Tri[i] = edge.Point{X: s.number(20000), Y: s.number(20000)}
			x.Depth[i], x.Near[i], x.Colour[i] = s.number(70000), s.number(1100), s.vector(70000)
		}
		col, row := s.number(70), s.number(70)
		depth, colour, ok := x.At(col, row)
		if ok && x.Check() != api.OK {
			t.Errorf("P13.2: %v, which is %d, at (%d, %d) is true", x, x.Check(), col, row)
		}
		if !ok && (depth != 0 || colour != vec.Vec{}) {
			t.Errorf("R3: %v at (%d, %d): %d and %v with false", x, col, row, depth, colour)
		}
	}
}
