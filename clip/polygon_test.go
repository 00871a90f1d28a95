package clip

import (
	"math"
	"slices"
	"testing"

	"azulejo/vec"
)

// cutting is, for one plane, vertices inside (a, b) and outside (c, d), and what lies on the plane between them:
// half of the way from a to c, three quarters of that from b to c, and a quarter of that from a to d.
type cutting struct {
	a, b, c, d, ac, bc, ad Vertex
}

// cuttings returns those of each plane.
func cuttings() (l [Planes]cutting) {
	for plane, p := range [Planes][7]vec.Vec{
		{{0, 0, 0, 312}, {40, 0, 0, 424}, {100, 101, 10, 200}, {40, 4, 8, 88}, {50, 50, 5, 256}, {85, 75, 7, 256}, {10, 1, 2, 256}},
		{{0, 0, 100, 1000}, {40, 0, 300, 1000}, {100, 101, -100, 1000}, {40, 4, -300, 1000}, {50, 50, 0, 1000}, {85, 75, 0, 1000}, {10, 1, 0, 1000}},
		{{0, 0, 900, 1000}, {40, 0, 700, 1000}, {100, 101, 1100, 1000}, {40, 4, 1300, 1000}, {50, 50, 1000, 1000}, {85, 75, 1000, 1000}, {10, 1, 1000, 1000}},
		{{-7900, 0, 0, 1000}, {-7700, 0, 40, 1000}, {-8100, 101, 100, 1000}, {-8300, 4, 40, 1000}, {-8000, 50, 50, 1000}, {-8000, 75, 85, 1000}, {-8000, 1, 10, 1000}},
		{{7900, 0, 0, 1000}, {7700, 0, 40, 1000}, {8100, 101, 100, 1000}, {8300, 4, 40, 1000}, {8000, 50, 50, 1000}, {8000, 75, 85, 1000}, {8000, 1, 10, 1000}},
		{{0, -7900, 0, 1000}, {0, -7700, 40, 1000}, {101, -8100, 100, 1000}, {4, -8300, 40, 1000}, {50, -8000, 50, 1000}, {75, -8000, 85, 1000}, {1, -8000, 10, 1000}},
		{{0, 7900, 0, 1000}, {0, 7700, 40, 1000}, {101, 8100, 100, 1000}, {4, 8300, 40, 1000}, {50, 8000, 50, 1000}, {75, 8000, 85, 1000}, {1, 8000, 10, 1000}},
	} {
		l[plane] = cutting{
			Vertex{p[0], vec.Vec{0, 0, 0, 65536}}, Vertex{p[1], vec.Vec{65536, 0, 0, 65536}},
			Vertex{p[2], vec.Vec{0, 0, 65536, 1}}, Vertex{p[3], vec.Vec{4, 0, 0, 65536}},
			Vertex{p[4], vec.Vec{0, 0, 32768, 32768}}, Vertex{p[5], vec.Vec{16384, 0, 49152, 16384}},
			Vertex{p[6], vec.Vec{1, 0, 0, 65536}},
		}
	}
	return l
}

func TestClipInside(t *testing.T) {
	one := Vertex{vec.Vec{0, 0, 0, 65536}, vec.Vec{65536, 0, 0, 65536}}
	two := Vertex{vec.Vec{9, -9, 65536, 65536}, vec.Vec{0, 65536, 0, 1}}
	three := Vertex{vec.Vec{-524288, 524288, 7, 65536}, vec.Vec{1, 2, 3, 4}}
	for _, l := range [][3]Vertex{{one, two, three}, {two, three, one}, {three, two, one}, {one, one, two}, {one, two, one}} {
		wantClip(t, "inside all planes", l, l[0], l[1], l[2])
	}
}

// Vertices on planes, also where planes meet, are inside.
func TestClipOnPlanes(t *testing.T) {
	var corners []Vertex
	for _, w := range []int{256, 524288, 4194304} {
		for _, x := range []int{-8 * w, 8 * w} {
			for _, y := range []int{-8 * w, 8 * w} {
				for _, z := range []int{0, w} {
					corners = append(corners, Vertex{vec.Vec{x, y, z, w}.Within(4194304), vec.Vec{1, 2, 3, 4}})
				}
			}
		}
	}
	for i, a := range corners {
		b, c := corners[(i+1)%len(corners)], corners[(i+5)%len(corners)]
		wantClip(t, "on planes", [3]Vertex{a, b, c}, a, b, c)
	}
}

func TestClipOutsideOfOnePlane(t *testing.T) {
	for plane, c := range cuttings() {
		for other := range Planes {
			if (c.c.Inside(other) < 0) != (other == plane) {
				t.Fatalf("the vertex %v is not outside of plane %d only", c.c, plane)
			}
		}
		further := c.c
		further.Colour = vec.Vec{9, 9, 9, 9}
		for _, l := range [][3]Vertex{{c.c, c.d, further}, {c.d, c.c, c.c}, {further, c.c, c.d}, {c.c, c.c, c.c}} {
			wantClip(t, "outside", l)
		}
	}
}

// No plane has all three vertices on its wrong side, but nothing is left.
func TestClipOutsideOfPlanesTogether(t *testing.T) {
	beside := place(-30000, 0, 100, 1000)
	below := place(0, 30000, 100, 1000)
	between := place(-14000, 14000, 100, 1000)
	wantClip(t, "past a corner", [3]Vertex{beside, below, between})
	wantClip(t, "past a corner", [3]Vertex{below, between, beside})
}

func TestClipOneCorner(t *testing.T) {
	for _, c := range cuttings() {
		wantClip(t, "the last one is outside", [3]Vertex{c.a, c.b, c.c}, c.a, c.b, c.bc, c.ac)
		wantClip(t, "the first one is outside", [3]Vertex{c.c, c.a, c.b}, c.ac, c.a, c.b, c.bc)
		wantClip(t, "the second one is outside", [3]Vertex{c.a, c.c, c.b}, c.a, c.ac, c.bc, c.b)
		wantClip(t, "the last one, turned", [3]Vertex{c.b, c.a, c.c}, c.b, c.a, c.ac, c.bc)
		wantClip(t, "the first one, turned", [3]Vertex{c.c, c.b, c.a}, c.bc, c.b, c.a, c.ac)
		wantClip(t, "the second one, turned", [3]Vertex{c.b, c.c, c.a}, c.b, c.bc, c.ac, c.a)
	}
}

func TestClipTwoCorners(t *testing.T) {
	for _, c := range cuttings() {
		wantClip(t, "the first one is inside", [3]Vertex{c.a, c.c, c.d}, c.a, c.ac, c.ad)
		wantClip(t, "the second one is inside", [3]Vertex{c.c, c.a, c.d}, c.ac, c.a, c.ad)
		wantClip(t, "the last one is inside", [3]Vertex{c.c, c.d, c.a}, c.ad, c.a, c.ac)
		wantClip(t, "two that are equal", [3]Vertex{c.c, c.c, c.b}, c.bc, c.b, c.bc)
	}
}

// A vertex on a plane is kept, and found once more by Cross.
func TestClipOneOnThePlane(t *testing.T) {
	for _, c := range cuttings() {
		wantClip(t, "one on it, one inside", [3]Vertex{c.ac, c.b, c.c}, c.ac, c.b, c.bc, c.ac)
		wantClip(t, "one on it, none inside", [3]Vertex{c.c, c.ac, c.d}, c.ac, c.ac, c.ac)
		wantClip(t, "two on it, one inside", [3]Vertex{c.ac, c.b, c.bc}, c.ac, c.b, c.bc)
	}
}

func TestClipSeveralPlanes(t *testing.T) {
	at := func(x, y int) Vertex { return Vertex{vec.Vec{x, y, 500, 1000}, vec.Vec{7, 8, 9, 65536}} }
	wantClip(t, "around the whole picture", [3]Vertex{at(-16000, -16000), at(48000, -16000), at(-16000, 48000)},
		at(8000, -8000), at(8000, 8000), at(-8000, 8000), at(-8000, -8000))
	wantClip(t, "past one corner", [3]Vertex{at(0, 0), at(16000, 0), at(0, 16000)},
		at(0, 0), at(8000, 0), at(8000, 8000), at(8000, 8000), at(0, 8000))
	through := func(x, z int) Vertex { return Vertex{vec.Vec{x, 0, z, 1000}, vec.Vec{0, 0, 0, 65536}} }
	wantClip(t, "z on both sides", [3]Vertex{through(0, -1000), through(4000, 1000), through(0, 3000)},
		through(2000, 0), through(4000, 1000), through(4000, 1000), through(0, 1000), through(0, 0))
}

// Places are rounded down between two planes, so the planes' order can be told.
func TestClipPlanesInOrder(t *testing.T) {
	tri := [3]Vertex{
		{Place: vec.Vec{-2039, 6409, 1410, 1694}},
		{Place: vec.Vec{-11300, 10729, 373, -204}},
		{Place: vec.Vec{11645, -11968, -215, 887}},
	}
	got := Clip(tri[0], tri[1], tri[2])
	if len(got) != 10 {
		t.Errorf("P12.2: %d corners, want 10: %v", len(got), got)
	}
	wantClip(t, "cut by all planes", tri, modelClip(tri)...)
}

// What is not cut is limited, and nothing else happens to it.
func TestClipLimits(t *testing.T) {
	for _, far := range []int{4194304, 4194305, 1 << 31, 1 << 40, 1 << 62, math.MaxInt} {
		a := Vertex{vec.Vec{far, -far, far, far}, vec.Vec{far, -far, 65537, -1}}
		b := Vertex{vec.Vec{-far, far, 0, far}, vec.Vec{-1, 65537, -far, far}}
		c := Vertex{vec.Vec{5, 6, 7, 600000}, vec.Vec{0, 65536, 65535, 1}}
		first := Vertex{vec.Vec{4194304, -4194304, 4194304, 4194304}, vec.Vec{65536, 0, 65536, 0}}
		second := Vertex{vec.Vec{-4194304, 4194304, 0, 4194304}, vec.Vec{0, 65536, 0, 65536}}
		wantClip(t, "limited", [3]Vertex{a, b, c}, first, second, c)
		wantClip(t, "limited", [3]Vertex{c, a, a}, c, first, first)
	}
	a := Vertex{vec.Vec{math.MinInt, math.MinInt, 0, math.MaxInt}, vec.Vec{math.MinInt, math.MinInt, math.MinInt, math.MinInt}}
	limited := Vertex{Place: vec.Vec{-4194304, -4194304, 0, 4194304}}
	wantClip(t, "the least int", [3]Vertex{a, a, a}, limited, limited, limited)
}

// Colours keep to their range only at the end, but to MaxPlace where a plane cuts.
func TestClipLimitsColoursAtTheEnd(t *testing.T) {
	shaded := func(z, n int) Vertex { return Vertex{vec.Vec{0, 0, z, 1000}, vec.Vec{n, n, n, n}} }
	for _, c := range []struct{ in, out, want int }{
		{131072, -131072, 0}, {131072, -131070, 1}, {-131072, 131070, 0}, {-65536, 131072, 32768},
		{131072, 131072, 65536}, {-5, -7, 0}, {4194304, -4194304 + 20, 10}, {math.MaxInt, -4194304 + 20, 10},
		{1 << 40, -1 << 40, 0}, {math.MinInt, math.MaxInt, 0}, {100, -101, 0}, {101, -100, 0}, {-100, 102, 1},
	} {
		in, out := shaded(500, c.in), shaded(-500, c.out)
		kept := shaded(500, limit(c.in, 0, 65536))
		wantClip(t, "one colour", [3]Vertex{in, out, out}, kept, shaded(0, c.want), shaded(0, c.want))
	}
}

// A vertex is limited before it is held against a plane and before it is cut.
func TestClipFarVertices(t *testing.T) {
	in := Vertex{vec.Vec{0, 0, 0, 4194304}, vec.Vec{}}
	far := Vertex{vec.Vec{0, 0, 1 << 40, 0}, vec.Vec{}}
	cut := Vertex{vec.Vec{0, 0, 2096 + 2095056, 2097152}, vec.Vec{}}
	got := Clip(in, in, far)
	want := modelClip([3]Vertex{in, in, far})
	if len(want) != 4 || want[2] != cut {
		t.Fatalf("the model's corners are %v", want)
	}
	if !slices.Equal(got, want) {
		t.Errorf("P12.2: far behind: %v, want %v", got, want)
	}
	limited := Vertex{Place: far.Place.Within(4194304)}
	wantClip(t, "as if limited", [3]Vertex{in, in, limited}, got...)
}

func TestClipEqualVertices(t *testing.T) {
	for _, c := range cuttings() {
		wantClip(t, "three inside", [3]Vertex{c.a, c.a, c.a}, c.a, c.a, c.a)
		wantClip(t, "three on a plane", [3]Vertex{c.ac, c.ac, c.ac}, c.ac, c.ac, c.ac)
		wantClip(t, "three outside", [3]Vertex{c.c, c.c, c.c})
	}
	wantClip(t, "three that are zero", [3]Vertex{})
}

// No triangle that was found is cut into one or two corners or into more than ten, so only polygon can be asked that.
func TestPolygon(t *testing.T) {
	for n := range 40 {
		var corners, want []Vertex
		for i := range n {
			corners = append(corners, Vertex{vec.Vec{i, 1 << 40, i, i}, vec.Vec{i, -1, 1 << 20, i}})
			want = append(want, Vertex{vec.Vec{i, 4194304, i, 256}, vec.Vec{i, 0, 65536, i}})
		}
		if n < 3 || n > 16 {
			want = nil
		}
		if got := polygon(corners); !slices.Equal(got, want) {
			t.Errorf("P12.2: %d corners: %v, want %v", n, got, want)
		}
	}
}

// What is cut has a w of at least 256 in any case, so only limited can be asked that.
func TestLimitedNear(t *testing.T) {
	for _, c := range []struct{ w, want int }{
		{255, 256}, {256, 256}, {257, 257}, {0, 256}, {-256, 256}, {-1000, 256}, {math.MinInt, 256},
		{4194304, 4194304}, {4194305, 4194304}, {math.MaxInt, 4194304},
	} {
		if got := (Vertex{Place: vec.Vec{1, 2, 3, c.w}}).limited(); got != (Vertex{Place: vec.Vec{1, 2, 3, c.want}}) {
			t.Errorf("P12.2: limited of a w of %d: %v", c.w, got)
		}
	}
}

func TestClipOfDrawnTriangles(t *testing.T) {
	s := source(3)
	var many [Most + 1]int
	for range 20000 {
		drawn := s.triangle()
		want := modelClip(drawn)
		wantClip(t, "drawn", drawn, want...)
		many[len(want)]++
	}
	for _, n := range []int{0, 3, 4, 5, 6, 7, 8} {
		if many[n] == 0 {
			t.Errorf("no drawn triangle is cut into %d corners: %v", n, many)
		}
	}
}

func TestClipOfAnyVertices(t *testing.T) {
	s := source(4)
	for range 15000 {
		drawn := [3]Vertex{s.vertex(), s.vertex(), s.vertex()}
		wantClip(t, "any", drawn, modelClip(drawn)...)
	}
}

// Every corner that is left has numbers that the chapter permits.
func TestClipRanges(t *testing.T) {
	s := source(5)
	for range 30000 {
		drawn := s.triangle()
		got := Clip(drawn[0], drawn[1], drawn[2])
		if n := len(got); n == 1 || n == 2 || n > 16 {
			t.Errorf("P12.2: %d corners of %v", n, drawn)
		}
		for _, v := range got {
			if v.limited() != v || v.Place[3] < 256 {
				t.Errorf("P12.2: a corner of %v is %v", drawn, v)
			}
		}
	}
}

// Two triangles with a common edge get the same vertices on it, whichever way round each has it.
func TestClipCommonEdge(t *testing.T) {
	s := source(6)
	for range 20000 {
		drawn := s.triangle()
		in, out := drawn[0], drawn[1]
		for plane := range Planes {
			forth, back := cut([]Vertex{in, out}, plane), cut([]Vertex{out, in}, plane)
			slices.SortFunc(forth, compare)
			slices.SortFunc(back, compare)
			if !slices.Equal(forth, back) {
				t.Errorf("P12.2: plane %d: %v one way, %v the other way", plane, forth, back)
			}
		}
	}
}

func compare(v, o Vertex) int {
	if c := slices.Compare(v.Place[:], o.Place[:]); c != 0 {
		return c
	}
	return slices.Compare(v.Colour[:], o.Colour[:])
}

// R6 and R8: arguments stay as they are, results are new, and every call answers the same again.
func TestClipKeepsNothing(t *testing.T) {
	for _, c := range cuttings() {
		for _, l := range [][3]Vertex{{c.a, c.b, c.c}, {c.a, c.c, c.d}, {c.a, c.b, c.ac}, {c.c, c.c, c.d}} {
			was := l
			first := Clip(l[0], l[1], l[2])
			kept := slices.Clone(first)
			second := Clip(l[0], l[1], l[2])
			for i := range second {
				second[i] = Vertex{}
			}
			for i := range cap(second) {
				second[:cap(second)][i] = Vertex{}
			}
			if !slices.Equal(first, kept) || !slices.Equal(first, Clip(l[0], l[1], l[2])) || l != was {
				t.Errorf("R6, R8: Clip of %v", l)
			}
		}
		in, out := c.a, c.c
		if Cross(in, out, 1) != Cross(in, out, 1) || in != c.a || out != c.c {
			t.Errorf("R6, R8: Cross of %v and %v", in, out)
		}
	}
}
