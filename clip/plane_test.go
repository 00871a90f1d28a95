package clip

import (
	"math"
	"testing"

	"azulejo/vec"
)

func TestInside(t *testing.T) {
	for _, c := range []struct {
		v    Vertex
		want [Planes]int
	}{
		{place(10, -20, 30, 1000), [Planes]int{744, 30, 970, 8010, 7990, 7980, 8020}},
		{place(-10, 20, -30, -1000), [Planes]int{-1256, -30, -970, -8010, -7990, -7980, -8020}},
		{place(0, 0, 0, 0), [Planes]int{-256, 0, 0, 0, 0, 0, 0}},
		{place(0, 0, 0, 1), [Planes]int{-255, 0, 1, 8, 8, 8, 8}},
		{place(1, 0, 0, 0), [Planes]int{-256, 0, 0, 1, -1, 0, 0}},
		{place(0, 1, 0, 0), [Planes]int{-256, 0, 0, 0, 0, 1, -1}},
		{place(0, 0, 1, 0), [Planes]int{-256, 1, -1, 0, 0, 0, 0}},
		{place(3, 5, 7, 65536), [Planes]int{65280, 7, 65529, 524291, 524285, 524293, 524283}},
	} {
		for plane, want := range c.want {
			wantInside(t, "each plane", c.v, plane, want)
		}
	}
}

// Each row is a vertex on a plane, and a step by which it comes to the right side, and back to the other one.
func TestInsideAtAPlane(t *testing.T) {
	for _, c := range []struct {
		plane  int
		on, by Vertex
		far    int
	}{
		{0, place(9, 9, 9, 256), place(0, 0, 0, 1), 1},
		{1, place(9, 9, 0, 1000), place(0, 0, 1, 0), 1},
		{2, place(9, 9, 1000, 1000), place(0, 0, -1, 0), 1},
		{2, place(9, 9, 1000, 1000), place(0, 0, 0, 1), 1},
		{2, place(9, 9, -1000, -1000), place(0, 0, -1, 0), 1},
		{3, place(-8000, 9, 9, 1000), place(1, 0, 0, 0), 1},
		{3, place(-8000, 9, 9, 1000), place(0, 0, 0, 1), 8},
		{3, place(8000, 9, 9, -1000), place(1, 0, 0, 0), 1},
		{4, place(8000, 9, 9, 1000), place(-1, 0, 0, 0), 1},
		{4, place(8000, 9, 9, 1000), place(0, 0, 0, 1), 8},
		{4, place(-8000, 9, 9, -1000), place(-1, 0, 0, 0), 1},
		{5, place(9, -8000, 9, 1000), place(0, 1, 0, 0), 1},
		{5, place(9, -8000, 9, 1000), place(0, 0, 0, 1), 8},
		{5, place(9, 8000, 9, -1000), place(0, 1, 0, 0), 1},
		{6, place(9, 8000, 9, 1000), place(0, -1, 0, 0), 1},
		{6, place(9, 8000, 9, 1000), place(0, 0, 0, 1), 8},
		{6, place(9, -8000, 9, -1000), place(0, -1, 0, 0), 1},
	} {
		wantInside(t, "on the plane", c.on, c.plane, 0)
		wantInside(t, "one inside", Vertex{Place: c.on.Place.Add(c.by.Place)}, c.plane, c.far)
		wantInside(t, "one outside", Vertex{Place: c.on.Place.Sub(c.by.Place)}, c.plane, -c.far)
	}
}

func TestInsideOfNoPlane(t *testing.T) {
	for _, plane := range noPlanes {
		for _, v := range []Vertex{{}, place(1, 2, 3, 4), place(-1, -2, -3, -4), place(math.MinInt, math.MinInt, math.MinInt, math.MinInt)} {
			wantInside(t, "no such plane", v, plane, 0)
		}
	}
}

func TestInsideBeyondMaxPlace(t *testing.T) {
	const most = 4194304
	for _, far := range []int{most, most + 1, 1 << 31, 1 << 40, 1 << 62, math.MaxInt} {
		for _, c := range []struct {
			v    Vertex
			want [Planes]int
		}{
			{place(far, 0, 0, 0), [Planes]int{-256, 0, 0, most, -most, 0, 0}},
			{place(-far, 0, 0, 0), [Planes]int{-256, 0, 0, -most, most, 0, 0}},
			{place(0, far, 0, 0), [Planes]int{-256, 0, 0, 0, 0, most, -most}},
			{place(0, -far, 0, 0), [Planes]int{-256, 0, 0, 0, 0, -most, most}},
			{place(0, 0, far, 0), [Planes]int{-256, most, -most, 0, 0, 0, 0}},
			{place(0, 0, -far, 0), [Planes]int{-256, -most, most, 0, 0, 0, 0}},
			{place(0, 0, 0, far), [Planes]int{4194048, 0, most, 33554432, 33554432, 33554432, 33554432}},
			{place(0, 0, 0, -far), [Planes]int{-4194560, 0, -most, -33554432, -33554432, -33554432, -33554432}},
			{place(far, -far, far, far), [Planes]int{4194048, most, 0, 37748736, 29360128, 29360128, 37748736}},
			{place(-far, far, far, -far), [Planes]int{-4194560, most, -2 * most, -37748736, -29360128, -29360128, -37748736}},
		} {
			for plane, want := range c.want {
				wantInside(t, "limited", c.v, plane, want)
			}
		}
	}
	least := place(math.MinInt, math.MinInt, math.MinInt, math.MinInt)
	for plane, want := range []int{-4194560, -most, 0, -37748736, -29360128, -37748736, -29360128} {
		wantInside(t, "the least int", least, plane, want)
	}
}

func TestInsideOfDrawnVertices(t *testing.T) {
	s := source(1)
	for range 20000 {
		v := s.vertex()
		for plane := -1; plane <= Planes; plane++ {
			wantInside(t, "drawn", v, plane, int(modelInside(v, plane).Int64()))
		}
	}
}

func TestCrossExample(t *testing.T) {
	in := Vertex{vec.Vec{100, 0, 0, 1256}, vec.Vec{100, 0, 0, 0}}
	out := Vertex{vec.Vec{200, 0, 0, -744}, vec.Vec{200, 0, 0, 0}}
	wantCross(t, "half of the way", in, out, 0, Vertex{vec.Vec{150, 0, 0, 256}, vec.Vec{150, 0, 0, 0}})
}

// In each row, a third of the way is inside, so that quotients of differences of either sign are rounded down.
func TestCrossEachPlane(t *testing.T) {
	inner, outer, middle := vec.Vec{10, 10, 0, 65536}, vec.Vec{0, 11, 65536, 0}, vec.Vec{6, 10, 21845, 43690}
	for _, c := range []struct {
		plane         int
		in, out, want vec.Vec
	}{
		{0, vec.Vec{0, 0, 0, 1256}, vec.Vec{100, -100, 200, -1744}, vec.Vec{33, -34, 66, 256}},
		{1, vec.Vec{0, 0, 1000, 600}, vec.Vec{100, -100, -2000, 601}, vec.Vec{33, -34, 0, 600}},
		{1, vec.Vec{0, 0, 1000, 600}, vec.Vec{-1, 1, -2000, 599}, vec.Vec{-1, 0, 0, 599}},
		{2, vec.Vec{0, 0, 0, 1000}, vec.Vec{100, -100, 2000, 0}, vec.Vec{33, -34, 666, 666}},
		{3, vec.Vec{-7000, 0, 0, 1000}, vec.Vec{-10000, -100, 100, 1000}, vec.Vec{-8000, -34, 33, 1000}},
		{3, vec.Vec{0, 0, 0, 125}, vec.Vec{-2000, -1, 1, 0}, vec.Vec{-667, -1, 0, 83}},
		{4, vec.Vec{7000, 0, 0, 1000}, vec.Vec{10000, -100, 100, 1000}, vec.Vec{8000, -34, 33, 1000}},
		{4, vec.Vec{0, 0, 0, 125}, vec.Vec{2000, -1, 1, 0}, vec.Vec{666, -1, 0, 83}},
		{5, vec.Vec{0, -7000, 0, 1000}, vec.Vec{-100, -10000, 100, 1000}, vec.Vec{-34, -8000, 33, 1000}},
		{5, vec.Vec{0, 0, 0, 125}, vec.Vec{-1, -2000, 1, 0}, vec.Vec{-1, -667, 0, 83}},
		{6, vec.Vec{0, 7000, 0, 1000}, vec.Vec{-100, 10000, 100, 1000}, vec.Vec{-34, 8000, 33, 1000}},
		{6, vec.Vec{0, 0, 0, 125}, vec.Vec{-1, 2000, 1, 0}, vec.Vec{-1, 666, 0, 83}},
	} {
		in, out := Vertex{c.in, inner}, Vertex{c.out, outer}
		wantCross(t, "a third of the way", in, out, c.plane, Vertex{c.want, middle})
		wantCross(t, "the other way round", out, in, c.plane, out)
	}
}

// A vertex on the plane is inside; where one of both is much nearer to the plane, the crossing is beside it.
func TestCrossAtAPlane(t *testing.T) {
	on := Vertex{vec.Vec{1, 2, 0, 300}, vec.Vec{3, -4, 5, 6}}
	out := Vertex{vec.Vec{100, 200, -1, 400}, vec.Vec{7, 8, 9, 10}}
	in := Vertex{vec.Vec{50, 60, 1, 500}, vec.Vec{11, 12, 13, 14}}
	wantCross(t, "in is on the plane", on, out, 1, on)
	wantCross(t, "out is on the plane", in, on, 1, in)
	wantCross(t, "one inside, one outside", in, out, 1, Vertex{vec.Vec{75, 130, 0, 450}, vec.Vec{9, 10, 11, 12}})
	out.Place[2] = -4194304
	wantCross(t, "nearly nothing inside", in, out, 1, Vertex{vec.Vec{50, 60, 0, 499}, vec.Vec{10, 11, 12, 13}})
	in.Place[2], out.Place[2] = 4194304, -1
	wantCross(t, "nearly nothing outside", in, out, 1, Vertex{vec.Vec{99, 199, 0, 400}, vec.Vec{7, 8, 9, 10}})
}

// Numbers beyond MaxPlace are limited before they are compared, and before they are subtracted.
func TestCrossBeyondMaxPlace(t *testing.T) {
	in := Vertex{vec.Vec{math.MinInt, -4194305, 1 << 40, 1 << 62}, vec.Vec{math.MaxInt, math.MinInt, 1 << 23, 3}}
	out := Vertex{vec.Vec{math.MaxInt, 4194304, -1 << 40, 0}, vec.Vec{math.MaxInt, 1 << 50, 0, -2}}
	half := Vertex{vec.Vec{0, 0, 0, 2097152}, vec.Vec{4194304, 0, 2097152, 0}}
	wantCross(t, "both", in, out, 1, half)
	on := Vertex{vec.Vec{1 << 30, -1 << 30, 0, math.MaxInt}, vec.Vec{math.MaxInt, math.MinInt, 4194305, -4194305}}
	limited := Vertex{vec.Vec{4194304, -4194304, 0, 4194304}, vec.Vec{4194304, -4194304, 4194304, -4194304}}
	wantCross(t, "on the plane", on, out, 1, limited)
	for i := range 4 {
		for _, far := range []int{4194305, 1 << 31, 1 << 40, 1 << 62, math.MaxInt} {
			in, out := Vertex{Place: vec.Vec{0, 0, 1000, 600}}, Vertex{Place: vec.Vec{0, 0, -1000, 600}}
			in.Colour[i], out.Colour[i] = far, -far
			wantCross(t, "a colour", in, out, 1, Vertex{Place: vec.Vec{0, 0, 0, 600}})
			out.Colour[i] = 0
			wantCross(t, "a colour of in", in, out, 1, Vertex{vec.Vec{0, 0, 0, 600}, vec.Vec{}.Add(at(i, 2097152))})
			in.Colour[i], out.Colour[i] = 0, -far-1
			wantCross(t, "a colour of out", in, out, 1, Vertex{vec.Vec{0, 0, 0, 600}, at(i, -2097152)})
		}
	}
}

// at returns a vector of which one component is not 0.
func at(i, n int) (v vec.Vec) {
	v[i] = n
	return v
}

// Of each plane, one vertex is inside, one on it, and one outside.
func TestCrossIsIn(t *testing.T) {
	sides := [Planes][3]vec.Vec{
		{{5, 5, 5, 300}, {5, 5, 5, 256}, {5, 5, 5, 200}},
		{{5, 5, 1, 300}, {5, 5, 0, 300}, {5, 5, -1, 300}},
		{{5, 5, 299, 300}, {5, 5, 300, 300}, {5, 5, 301, 300}},
		{{-7999, 5, 5, 1000}, {-8000, 5, 5, 1000}, {-8001, 5, 5, 1000}},
		{{7999, 5, 5, 1000}, {8000, 5, 5, 1000}, {8001, 5, 5, 1000}},
		{{5, -7999, 5, 1000}, {5, -8000, 5, 1000}, {5, -8001, 5, 1000}},
		{{5, 7999, 5, 1000}, {5, 8000, 5, 1000}, {5, 8001, 5, 1000}},
	}
	first, second := vec.Vec{math.MaxInt, math.MinInt, -7, 1 << 40}, vec.Vec{1, 2, 3, 4}
	for plane, side := range sides {
		for i, p := range side {
			for j, q := range side {
				in, out := Vertex{p, first}, Vertex{q, second}
				if i == 2 || j < 2 {
					wantCross(t, "in is not inside, or out is", in, out, plane, in)
				} else {
					wantCross(t, "one inside, one outside", in, out, plane, modelCross(in, out, plane))
				}
			}
			wantCross(t, "equal vertices", Vertex{p, first}, Vertex{p, first}, plane, Vertex{p, first})
		}
	}
}

func TestCrossLeavesInAsItIs(t *testing.T) {
	far := place(math.MaxInt, math.MinInt, 1<<40, -1<<40)
	near := place(1, 2, 3, 400)
	wantCross(t, "in is outside", far, near, 0, far)
	wantCross(t, "both are outside", far, far, 0, far)
	wantCross(t, "both are inside", far, near, 1, far)
	for _, plane := range noPlanes {
		wantCross(t, "no such plane", far, near, plane, far)
		wantCross(t, "no such plane", near, far, plane, near)
		wantCross(t, "no such plane, equal vertices", far, far, plane, far)
	}
}

func TestCrossOfDrawnVertices(t *testing.T) {
	s := source(2)
	crossed := 0
	for range 8000 {
		drawn := s.triangle()
		in, out := drawn[0], drawn[1]
		for plane := -1; plane <= Planes; plane++ {
			want := modelCross(in, out, plane)
			wantCross(t, "drawn", in, out, plane, want)
			if want != in {
				crossed++
			}
		}
	}
	if crossed < 4000 {
		t.Errorf("only %d of the drawn vertices cross a plane", crossed)
	}
}
