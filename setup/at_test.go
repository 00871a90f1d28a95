package setup

import (
	"math"
	"testing"

	"azulejo/edge"
	"azulejo/state"
	"azulejo/vec"
)

func TestMiddle(t *testing.T) {
	for x := -1; x <= 64; x++ {
		for y := -1; y <= 64; y++ {
			if got, want := Middle(x, y), (edge.Point{X: 16*x + 8, Y: 16*y + 8}); got != want {
				t.Errorf("P13.2: Middle(%d, %d) is %v, want %v", x, y, got, want)
			}
		}
	}
	ends := []struct{ n, want int }{
		{-2, -8}, {-3, -8}, {-64, -8}, {-1 << 32, -8}, {7 - 1<<60, -8}, {math.MinInt, -8}, {math.MinInt + 1, -8},
		{65, 1032}, {66, 1032}, {1000, 1032}, {1 << 32, 1032}, {7 + 1<<60, 1032}, {math.MaxInt, 1032},
	}
	for _, a := range ends {
		for _, b := range ends {
			if got, want := Middle(a.n, b.n), (edge.Point{X: a.want, Y: b.want}); got != want {
				t.Errorf("P13.2: Middle(%d, %d) is %v, want %v", a.n, b.n, got, want)
			}
		}
		if got, want := Middle(a.n, 3), (edge.Point{X: a.want, Y: 56}); got != want {
			t.Errorf("P13.2: Middle(%d, 3) is %v, want %v", a.n, got, want)
		}
	}
}

func wantAt(t *testing.T, what string, x Tri, col, row, depth int, colour vec.Vec, ok bool) {
	t.Helper()
	d, c, in := x.At(col, row)
	if d != depth || c != colour || in != ok {
		t.Errorf("P13.2: %s: %v at (%d, %d) is %d, %v, %v, want %d, %v, %v", what, x, col, row, d, c, in, depth, colour, ok)
	}
}

func notAt(t *testing.T, what string, x Tri, col, row int) {
	t.Helper()
	wantAt(t, what, x, col, row, 0, vec.Vec{}, false)
}

// centred has its corners at the centres of the pixels (0, 0), (2, 0) and (0, 2).
func centred() Tri {
	x := made()
	x.Tri = edge.Tri{{X: 8, Y: 8}, {X: 40, Y: 8}, {X: 8, Y: 40}}
	return x
}

// Of the sides, the upper and the left one are of the triangle.
func TestAtOfSidesAndCorners(t *testing.T) {
	x := centred()
	wantAt(t, "the first corner", x, 0, 0, 100, vec.Vec{1, 2, 3, 4}, true)
	notAt(t, "the second corner", x, 2, 0)
	notAt(t, "the third corner", x, 0, 2)
	notAt(t, "the middle of the third side", x, 1, 1)
	// Half of 1024 and of 512: 7 / 3, 10 / 3, ...
	wantAt(t, "the middle of the upper side", x, 1, 0, 150, vec.Vec{2, 3, 4, 5}, true)
	// 1024 and 341 of 1365: (1024 + 9 * 341) / 1365 is 2.99, ...
	wantAt(t, "the middle of the left side", x, 0, 1, 200, vec.Vec{2, 3, 4, 5}, true)
	for _, p := range [][2]int{{-1, 0}, {0, -1}, {-1, -1}, {3, 0}, {0, 3}, {2, 1}, {1, 2}, {2, 2}, {63, 63}, {64, 64}} {
		notAt(t, "outside", x, p[0], p[1])
	}
	// The neighbour has the other sides.
	x.Tri = edge.Tri{{X: 40, Y: 40}, {X: 8, Y: 40}, {X: 40, Y: 8}}
	notAt(t, "the neighbour's first corner", x, 2, 2)
	notAt(t, "the neighbour's lower side", x, 1, 2)
	notAt(t, "the neighbour's right side", x, 2, 1)
	wantAt(t, "the common side", x, 1, 1, 250, vec.Vec{6, 7, 8, 9}, true)
}

func TestAtWeighsDepthsAndColours(t *testing.T) {
	x := Tri{
		Tri:    edge.Tri{{X: 0, Y: 0}, {X: 32, Y: 0}, {X: 0, Y: 32}},
		Depth:  [3]int{0, 100, 1001},
		Near:   [3]int{1024, 512, 1},
		Colour: [3]vec.Vec{{65536, 0, 0, 1}, {0, 65536, 0, 2}, {0, 0, 65536, 60000}},
	}
	// The weights are 512, 256 and 256; times Near, 524288, 131072 and 256, which are 655616.
	wantAt(t, "the first pixel", x, 0, 0, 275, vec.Vec{52408, 13102, 25, 24}, true)
	x.Near = [3]int{1024, 1024, 1024}
	wantAt(t, "all equally near", x, 0, 0, 275, vec.Vec{32768, 16384, 16384, 15001}, true)
	x.Near = [3]int{1, 1, 1}
	wantAt(t, "all equally far", x, 0, 0, 275, vec.Vec{32768, 16384, 16384, 15001}, true)
	x.Near = [3]int{1, 1, 1024}
	// The weights times Near are 512, 256 and 262144, which are 262912.
	wantAt(t, "the third one nearest", x, 0, 0, 275, vec.Vec{127, 63, 65344, 59824}, true)
	notAt(t, "the third side", x, 1, 0)
	notAt(t, "the third side", x, 0, 1)
}

func TestAtRoundsDown(t *testing.T) {
	x := centred()
	// At (1, 0) the weights are equal: 512 and 512.
	x.Near = [3]int{7, 7, 7}
	x.Depth = [3]int{0, 1, 0}
	x.Colour = [3]vec.Vec{{0, 1, 3, 65535}, {1, 1, 4, 65536}, {}}
	wantAt(t, "halves", x, 1, 0, 0, vec.Vec{0, 1, 3, 65535}, true)
	x.Depth = [3]int{65535, 65534, 0}
	wantAt(t, "the greatest depths", x, 1, 0, 65534, vec.Vec{0, 1, 3, 65535}, true)
}

// huge covers all pixels on and above the diagonal, with the greatest area there is.
func huge() Tri {
	x := Tri{Tri: edge.Tri{{X: -16384, Y: -16384}, {X: 16384, Y: -16384}, {X: 16384, Y: 16384}}}
	for i := range 3 {
		x.Depth[i], x.Near[i], x.Colour[i] = 65535, 1024, vec.Vec{65536, 65536, 65536, 65536}
	}
	return x
}

func TestAtOfTheGreatestNumbers(t *testing.T) {
	x := huge()
	for col := -1; col <= 64; col++ {
		for row := -1; row <= col; row++ {
			wantAt(t, "the greatest numbers", x, col, row, 65535, vec.Vec{65536, 65536, 65536, 65536}, true)
		}
		for row := col + 1; row <= 64; row++ {
			notAt(t, "below the diagonal", x, col, row)
		}
	}
	x.Depth = [3]int{0, 65535, 0}
	x.Near = [3]int{1, 1024, 1}
	x.Colour[0], x.Colour[2] = vec.Vec{}, vec.Vec{}
	// The weights of (64, -1) are 503054336, 34078720 and 536608768.
	wantAt(t, "only the second corner", x, 64, -1, 2079, vec.Vec{63639, 63639, 63639, 63639}, true)
}

// Pixels beyond the picture are those just beyond it.
func TestAtBeyondThePicture(t *testing.T) {
	x := huge()
	x.Tri[2].Y = 16000 // so that its third side lies above the pixels on the diagonal
	x.Depth, x.Near = [3]int{1, 2000, 40000}, [3]int{1024, 300, 2}
	x.Colour = [3]vec.Vec{{5, 6, 7, 8}, {40000, 2, 3, 4}, {60000, 50000, 40000, 30000}}
	depth, colour, ok := x.At(64, -1)
	if !ok {
		t.Fatal("P13.2: (64, -1) is not of it")
	}
	for _, col := range []int{65, 66, 1000, 1 << 40, math.MaxInt} {
		for _, row := range []int{-2, -3, -1000, -1 << 40, math.MinInt} {
			wantAt(t, "beyond", x, col, row, depth, colour, true)
			notAt(t, "beyond", x, row, col)
			notAt(t, "beyond", x, col, col)
			notAt(t, "beyond", x, row, row)
		}
	}
	// A triangle that covers only what is far beyond the picture has no pixel.
	x.Tri = edge.Tri{{X: 2000, Y: 2000}, {X: 9000, Y: 2000}, {X: 9000, Y: 9000}}
	notAt(t, "far beyond", x, 400, 300)
}

// A triangle that Check does not let pass has no pixels, although edge may cover them.
func TestAtOfTrianglesThatAreNone(t *testing.T) {
	wantAt(t, "sound", centred(), 0, 0, 100, vec.Vec{1, 2, 3, 4}, true)
	for i := range places(&Tri{}) {
		for beyond := range 2 {
			x := centred()
			p := places(&x)[i]
			*p.at = []int{p.least - 1, p.most + 1}[beyond]
			for col := -1; col < 4; col++ {
				for row := -1; row < 4; row++ {
					notAt(t, p.name+" beyond", x, col, row)
				}
			}
		}
	}
	x := centred()
	x.Tri = x.Turned()
	notAt(t, "turned", x, 0, 0)
	x.Tri = edge.Tri{{X: 8, Y: 8}, {X: 40, Y: 8}, {X: 72, Y: 8}}
	notAt(t, "no area", x, 1, 0)
	notAt(t, "nothing", Tri{}, 0, 0)
}

// onPicture draws a triangle on or near the picture, with the greatest or with any numbers.
func (s *source) onPicture() Tri {
	for {
		c := [3]Corner{s.corner(), s.corner(), s.corner()}
		for i := range c {
			far := []int{30, 600, 16384}[s.below(3)]
			c[i].Point = edge.Point{X: s.around(s.below(1024), far), Y: s.around(s.below(1024), far)}
			if s.below(2) == 0 {
				c[i].X, c[i].Y = 16*s.below(64)+8, 16*s.below(64)+8
			}
			if s.below(4) == 0 {
				c[i].Depth, c[i].Far, c[i].Colour = 65535, 1, vec.Vec{65536, 65535, 65536, 65536}
			}
		}
		if t, ok := Make(c[0], c[1], c[2], state.None); ok {
			return t
		}
	}
}

// pixelOf draws a pixel by a corner or in the middle of a triangle, or any one.
func (s *source) pixelOf(t Tri) (x, y int) {
	a, b, c := t.Tri[s.below(3)], t.Tri[s.below(3)], t.Tri[s.below(3)]
	if s.below(8) == 0 {
		return s.number(70), s.number(70)
	}
	return s.around((a.X+b.X+c.X)/48, 1), s.around((a.Y+b.Y+c.Y)/48, 1)
}

func TestAtOfSamples(t *testing.T) {
	var s source = 5
	covered := 0
	for range 40000 {
		x := s.onPicture()
		col, row := s.pixelOf(x)
		depth, colour, ok := modelAt(x, col, row)
		wantAt(t, "a sample", x, col, row, depth, colour, ok)
		if ok {
			covered++
		}
	}
	if covered < 8000 {
		t.Errorf("only %d samples are covered", covered)
	}
}

// A triangle whose corners have one colour has this colour everywhere, and likewise one depth.
func TestAtOfOneColour(t *testing.T) {
	var s source = 6
	for range 20 {
		x := s.onPicture()
		colour := vec.Vec{s.below(65537), s.below(65537), 0, 65536}
		x.Colour = [3]vec.Vec{colour, colour, colour}
		depth := s.below(65536)
		x.Depth = [3]int{depth, depth, depth}
		for col := -1; col <= 64; col++ {
			for row := -1; row <= 64; row++ {
				if x.Tri.Covers(Middle(col, row)) {
					wantAt(t, "one colour", x, col, row, depth, colour, true)
				} else {
					notAt(t, "one colour", x, col, row)
				}
			}
		}
	}
}
