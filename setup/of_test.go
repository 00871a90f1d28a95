package setup

import (
	"math"
	"testing"

	"azulejo/api"
	"azulejo/clip"
	"azulejo/edge"
	"azulejo/vec"
)

func at(x, y, z, w int) clip.Vertex { return clip.Vertex{Place: vec.Vec{x, y, z, w}} }

func corner(x, y, depth, far int) Corner {
	return Corner{Point: edge.Point{X: x, Y: y}, Depth: depth, Far: far}
}

func wantOf(t *testing.T, what string, v clip.Vertex, w, h int, want Corner) {
	t.Helper()
	if got := Of(v, w, h); got != want {
		t.Errorf("P13.1: %s: Of(%v, %d, %d) is %v, want %v", what, v, w, h, got, want)
	}
}

func TestOfOnEachSize(t *testing.T) {
	v := at(32768, -16384, 32768, 65536)
	wantOf(t, "1 by 1", v, 1, 1, corner(12, 10, 32767, 65536))
	wantOf(t, "64 by 64", v, 64, 64, corner(768, 640, 32767, 65536))
	wantOf(t, "16 by 8", v, 16, 8, corner(192, 80, 32767, 65536))
	wantOf(t, "1 by 64", v, 1, 64, corner(12, 640, 32767, 65536))
	wantOf(t, "64 by 1", v, 64, 1, corner(768, 10, 32767, 65536))
	wantOf(t, "63 by 2", v, 63, 2, corner(756, 20, 32767, 65536))
}

func TestOfLimitsTheSizeFirst(t *testing.T) {
	v := at(-16384, 32768, 0, 65536)
	for _, small := range []int{0, -1, -64, -65, -1 << 32, -1<<32 + 5, math.MinInt, math.MinInt + 1} {
		wantOf(t, "width below 1", v, small, 3, corner(6, 12, 0, 65536))
		wantOf(t, "height below 1", v, 3, small, corner(18, 4, 0, 65536))
		wantOf(t, "both below 1", v, small, small, corner(6, 4, 0, 65536))
	}
	for _, great := range []int{65, 66, 128, 1 << 16, 1 << 32, 1<<32 + 5, math.MaxInt} {
		wantOf(t, "width above 64", v, great, 3, corner(384, 12, 0, 65536))
		wantOf(t, "height above 64", v, 3, great, corner(18, 256, 0, 65536))
		wantOf(t, "both above 64", v, great, great, corner(384, 256, 0, 65536))
	}
	wantOf(t, "one below and one above", v, math.MinInt, math.MaxInt, corner(6, 256, 0, 65536))
}

func TestOfLimitsThePlace(t *testing.T) {
	const most = api.MaxPlace
	// The fourth component is twice MaxPlace, so that a component beyond MaxPlace would be more than half of it.
	for _, beyond := range []int{most, most + 1, 2 * most, 1 << 31, 1 << 40, math.MaxInt} {
		wantOf(t, "x", at(beyond, 0, 0, 2*most), 64, 64, corner(768, 512, 0, 2*most))
		wantOf(t, "y", at(0, beyond, 0, 2*most), 64, 64, corner(512, 256, 0, 2*most))
		wantOf(t, "z", at(0, 0, beyond, 2*most), 64, 64, corner(512, 512, 32767, 2*most))
	}
	for _, beyond := range []int{-most, -most - 1, -2 * most, -1 << 31, -1 << 40, math.MinInt} {
		wantOf(t, "x below", at(beyond, 0, 0, 2*most), 64, 64, corner(256, 512, 0, 2*most))
		wantOf(t, "y below", at(0, beyond, 0, 2*most), 64, 64, corner(512, 768, 0, 2*most))
		wantOf(t, "z below", at(0, 0, beyond, 2*most), 64, 64, corner(512, 512, 0, 2*most))
	}
	// 512 (MaxPlace - 1) / MaxPlace is a little below 512.
	wantOf(t, "within", at(most-1, 1-most, most-1, most), 64, 64, corner(1023, 1024, 65534, most))
}

func TestOfFar(t *testing.T) {
	for _, w := range []int{256, 255, 1, 0, -1, -256, -api.MaxPlace - 1, math.MinInt} {
		wantOf(t, "256 or less", at(32, -32, 64, w), 2, 4, corner(18, 36, 16383, 256))
	}
	wantOf(t, "257", at(32, -32, 64, 257), 2, 4, corner(17, 36, 16320, 257))
	wantOf(t, "MaxPlace", at(1<<21, 1<<20, 1<<20, api.MaxPlace), 1, 1, corner(12, 6, 16383, api.MaxPlace))
	// Only x, y and z are limited to MaxPlace.
	wantOf(t, "beyond MaxPlace", at(1<<21, 1<<20, 1<<21, 1<<23), 1, 1, corner(10, 7, 16383, 1<<23))
	wantOf(t, "far beyond", at(-1, 1, 1, math.MaxInt), 1, 1, corner(7, 8, 0, math.MaxInt))
}

func TestOfRoundsDown(t *testing.T) {
	// On a picture of 1 by 1, X is 8 + x / 32 and Y is 8 - y / 32.
	rows := []struct{ n, x, y int }{
		{0, 8, 8}, {1, 8, 8}, {31, 8, 8}, {32, 9, 7}, {33, 9, 7}, {63, 9, 7}, {64, 10, 6},
		{-1, 7, 9}, {-31, 7, 9}, {-32, 7, 9}, {-33, 6, 10}, {-64, 6, 10}, {-65, 5, 11},
	}
	for _, r := range rows {
		wantOf(t, "a quotient", at(r.n, r.n, 0, 256), 1, 1, corner(r.x, r.y, 0, 256))
	}
	depths := []struct{ z, w, want int }{
		{0, 256, 0}, {1, 65536, 0}, {2, 65536, 1}, {1, 256, 255}, {3, 256, 767}, {255, 256, 65279}, {32768, 65536, 32767},
		{-1, 65536, 0}, {1, 65535, 1}, {-1, 65535, 0}, {65534, 65535, 65534},
	}
	for _, r := range depths {
		wantOf(t, "a depth", at(0, 0, r.z, r.w), 1, 1, corner(8, 8, r.want, r.w))
	}
}

func TestOfLimitsThePoint(t *testing.T) {
	// On a picture of 64 by 64, X is 512 + x and Y is 512 - y.
	rows := []struct{ n, x, y int }{
		{15871, 16383, -15359}, {15872, 16384, -15360}, {15873, 16384, -15361}, {16895, 16384, -16383},
		{16896, 16384, -16384}, {16897, 16384, -16384}, {api.MaxPlace, 16384, -16384},
		{-15871, -15359, 16383}, {-15872, -15360, 16384}, {-15873, -15361, 16384}, {-16895, -16383, 16384},
		{-16896, -16384, 16384}, {-16897, -16384, 16384}, {-api.MaxPlace, -16384, 16384},
	}
	for _, r := range rows {
		wantOf(t, "a column", at(r.n, 0, 0, 512), 64, 64, corner(r.x, 512, 0, 512))
		wantOf(t, "a row", at(0, r.n, 0, 512), 64, 64, corner(512, r.y, 0, 512))
	}
}

func TestOfLimitsTheDepth(t *testing.T) {
	for _, z := range []int{-1, -2, -256, -api.MaxPlace, math.MinInt} {
		wantOf(t, "below 0", at(0, 0, z, 256), 1, 1, corner(8, 8, 0, 256))
	}
	for _, z := range []int{256, 257, 512, api.MaxPlace, math.MaxInt} {
		wantOf(t, "above 65535", at(0, 0, z, 256), 1, 1, corner(8, 8, 65535, 256))
	}
}

func TestOfLimitsTheColour(t *testing.T) {
	rows := []struct{ colour, want vec.Vec }{
		{vec.Vec{0, 1, 65535, 65536}, vec.Vec{0, 1, 65535, 65536}},
		{vec.Vec{-1, 65537, -65536, 131072}, vec.Vec{0, 65536, 0, 65536}},
		{vec.Vec{65537, -1, 70000, -5}, vec.Vec{65536, 0, 65536, 0}},
		{vec.Vec{math.MinInt, math.MaxInt, -1 << 32, 1 << 32}, vec.Vec{0, 65536, 0, 65536}},
		{vec.Vec{math.MaxInt, math.MinInt, 1<<32 + 7, 7 - 1<<32}, vec.Vec{65536, 0, 65536, 0}},
	}
	for _, r := range rows {
		v := at(0, 0, 0, 256)
		v.Colour = r.colour
		want := corner(8, 8, 0, 256)
		want.Colour = r.want
		wantOf(t, "a colour", v, 1, 1, want)
	}
}

func TestOfOfSamples(t *testing.T) {
	var s source = 1
	for range 50000 {
		v, w, h := s.vertex(), s.number(70), s.number(70)
		wantOf(t, "a sample", v, w, h, modelOf(v, w, h))
	}
}
