package clip

import (
	"math"
	"math/big"
	"slices"
	"testing"

	"azulejo/vec"
)

// source draws from a fixed sequence, so that every run has the same samples.
type source uint32

func (s *source) below(n int) int {
	*s = *s*1664525 + 1013904223
	return int(*s>>8) % n
}

// edges are numbers at which something changes: signs, Near, the limits of a colour, of a place, and of int.
var edges = []int{
	0, 1, -1, 255, 256, 257, -256, 65535, 65536, 65537, -65536,
	4194303, 4194304, 4194305, -4194303, -4194304, -4194305, 524287, 524288, 524289, -524288,
	2147483647, 2147483648, -2147483648, 1 << 40, -1 << 40, 1 << 62, -1 << 62, math.MaxInt, math.MinInt,
}

// around draws a number that is at most some distance from another.
func (s *source) around(n, far int) int { return n + s.below(2*far+1) - far }

// vertex draws any vertex: edges, small numbers, and numbers of places.
func (s *source) vertex() (v Vertex) {
	number := func() int {
		switch s.below(4) {
		case 0:
			return edges[s.below(len(edges))]
		case 1:
			return s.around(0, 9)
		}
		return s.around(0, 5000000)
	}
	for i := range v.Place {
		v.Place[i], v.Colour[i] = number(), number()
	}
	return v
}

// corner draws a vertex near where planes meet, or, with a great distance, on any side of them.
func (s *source) corner(w, far int) (v Vertex) {
	x, y, z := []int{-8, 0, 8}[s.below(3)], []int{-8, 0, 8}[s.below(3)], s.below(2)
	v.Place = vec.Vec{s.around(x*w, 8*far), s.around(y*w, 8*far), s.around(z*w, far), s.around(w, far)}
	for i := range v.Colour {
		v.Colour[i] = s.around(32768, 60000)
	}
	return v
}

// triangle draws three vertices, mostly such that some planes cut them.
func (s *source) triangle() (t [3]Vertex) {
	w := []int{256, 256 + s.below(50), 256 + s.below(5000), s.below(4000000)}[s.below(4)]
	far := []int{3, 50, 300, 5000, 100000}[s.below(5)]
	for i := range t {
		t[i] = s.corner(w, far)
		if s.below(20) == 0 {
			t[i] = s.vertex()
		}
	}
	return t
}

// noPlanes are numbers of planes that there are not.
var noPlanes = []int{-1, 7, -2, 8, 9, 255, 256, 263, -249, 1 << 32, -1 << 32, 1<<32 + 1, 1 << 62, math.MaxInt, math.MinInt, math.MinInt + 1}

// place returns a vertex that has the same numbers for its colour, which must not count.
func place(x, y, z, w int) Vertex { return Vertex{vec.Vec{x, y, z, w}, vec.Vec{w, z, y, x}} }

// The models compute with big integers, where nothing can overflow.

func limit(n, low, high int) int { return max(low, min(n, high)) }

func modelInside(v Vertex, plane int) *big.Int {
	sums := [Planes][5]int{
		{0, 0, 0, 1, -256}, {0, 0, 1, 0, 0}, {0, 0, -1, 1, 0},
		{1, 0, 0, 8, 0}, {-1, 0, 0, 8, 0}, {0, 1, 0, 8, 0}, {0, -1, 0, 8, 0},
	}
	if plane < 0 || plane >= len(sums) {
		return new(big.Int)
	}
	sum := big.NewInt(int64(sums[plane][4]))
	for i, n := range v.Place {
		product := big.NewInt(int64(limit(n, -4194304, 4194304)))
		sum.Add(sum, product.Mul(product, big.NewInt(int64(sums[plane][i]))))
	}
	return sum
}

func modelCross(in, out Vertex, plane int) Vertex {
	a, b := modelInside(in, plane), modelInside(out, plane)
	if a.Sign() < 0 || b.Sign() >= 0 {
		return in
	}
	// Euclid's division rounds down where the divisor is positive, as it is here.
	way := new(big.Int).Sub(a, b)
	on := func(from, to int) int {
		start := big.NewInt(int64(limit(from, -4194304, 4194304)))
		part := big.NewInt(int64(limit(to, -4194304, 4194304)))
		part.Sub(part, start).Mul(part, a).Div(part, way)
		return int(part.Add(part, start).Int64())
	}
	for i := range 4 {
		in.Place[i], in.Colour[i] = on(in.Place[i], out.Place[i]), on(in.Colour[i], out.Colour[i])
	}
	return in
}

func modelClip(t [3]Vertex) []Vertex {
	ring := t[:]
	for plane := range 7 {
		// Each vertex is followed by the crossing between it and the next one; then those outside are left out.
		var kept []Vertex
		for i, v := range ring {
			next := ring[0]
			if i < len(ring)-1 {
				next = ring[i+1]
			}
			here, there := modelInside(v, plane).Sign() >= 0, modelInside(next, plane).Sign() >= 0
			if here {
				kept = append(kept, v)
			}
			if here && !there {
				kept = append(kept, modelCross(v, next, plane))
			}
			if there && !here {
				kept = append(kept, modelCross(next, v, plane))
			}
		}
		ring = kept
	}
	if len(ring) < 3 || len(ring) > 16 {
		return nil
	}
	for i, v := range ring {
		for j := range 4 {
			v.Place[j] = limit(v.Place[j], -4194304, 4194304)
			v.Colour[j] = limit(v.Colour[j], 0, 65536)
		}
		v.Place[3] = max(v.Place[3], 256)
		ring[i] = v
	}
	return ring
}

func wantInside(t *testing.T, what string, v Vertex, plane, want int) {
	t.Helper()
	if got := v.Inside(plane); got != want {
		t.Errorf("P12.1: %s: Inside(%d) of %v is %d, want %d", what, plane, v.Place, got, want)
	}
}

func wantCross(t *testing.T, what string, in, out Vertex, plane int, want Vertex) {
	t.Helper()
	if got := Cross(in, out, plane); got != want {
		t.Errorf("P12.1: %s: Cross(%v, %v, %d) is %v, want %v", what, in, out, plane, got, want)
	}
}

func wantClip(t *testing.T, what string, tri [3]Vertex, want ...Vertex) {
	t.Helper()
	if got := Clip(tri[0], tri[1], tri[2]); !slices.Equal(got, want) {
		t.Errorf("P12.2: %s: Clip of %v is %v, want %v", what, tri, got, want)
	}
}

func TestConstants(t *testing.T) {
	if Near != 256 || Planes != 7 || Most != 16 {
		t.Errorf("P12.1: Near %d, Planes %d, Most %d", Near, Planes, Most)
	}
}
