package setup

import (
	"math"
	"testing"

	"azulejo/api"
	"azulejo/edge"
	"azulejo/state"
	"azulejo/vec"
)

// culls are each way, and some that are not defined.
var culls = []state.Cull{state.None, state.Back, state.Front, state.Culls, 4, 255}

// The corners of a right triangle: with different numbers, so that it can be told which is which.
func right() [3]Corner {
	return [3]Corner{
		{edge.Point{X: 0, Y: 0}, 100, 1000, vec.Vec{1, 2, 3, 4}},
		{edge.Point{X: 32, Y: 0}, 200, 2000, vec.Vec{5, 6, 7, 8}},
		{edge.Point{X: 0, Y: 48}, 300, 3000, vec.Vec{9, 10, 11, 12}},
	}
}

// made is the triangle of these corners.
func made() Tri {
	return Tri{
		Tri:    edge.Tri{{X: 0, Y: 0}, {X: 32, Y: 0}, {X: 0, Y: 48}},
		Depth:  [3]int{100, 200, 300},
		Near:   [3]int{1024, 512, 341},
		Colour: [3]vec.Vec{{1, 2, 3, 4}, {5, 6, 7, 8}, {9, 10, 11, 12}},
	}
}

func wantMake(t *testing.T, what string, c [3]Corner, cull state.Cull, want Tri, ok bool) {
	t.Helper()
	got, made := Make(c[0], c[1], c[2], cull)
	if got != want || made != ok {
		t.Errorf("P13.1: %s: Make of %v with %d is %v, %v, want %v, %v", what, c, cull, got, made, want, ok)
	}
}

func TestMakeWithEachCull(t *testing.T) {
	c := right()
	wantMake(t, "right", c, state.None, made(), true)
	wantMake(t, "right", c, state.Back, made(), true)
	wantMake(t, "right", c, state.Front, Tri{}, false)
	turned := [3]Corner{c[0], c[2], c[1]}
	wantMake(t, "turned", turned, state.None, made(), true)
	wantMake(t, "turned", turned, state.Back, Tri{}, false)
	wantMake(t, "turned", turned, state.Front, made(), true)
	for _, cull := range culls[3:] {
		wantMake(t, "right, no such cull", c, cull, made(), true)
		wantMake(t, "turned, no such cull", turned, cull, made(), true)
	}
}

// Only the last two corners are exchanged: the first one stays the first.
func TestMakeKeepsTheFirstCorner(t *testing.T) {
	c, whole := right(), made()
	wantMake(t, "second first", [3]Corner{c[1], c[2], c[0]}, state.None, rolled(whole, 1), true)
	wantMake(t, "third first", [3]Corner{c[2], c[0], c[1]}, state.None, rolled(whole, 2), true)
	wantMake(t, "second first, turned", [3]Corner{c[1], c[0], c[2]}, state.None, rolled(whole, 1), true)
	wantMake(t, "third first, turned", [3]Corner{c[2], c[1], c[0]}, state.None, rolled(whole, 2), true)
}

// rolled returns the triangle whose first corner is another one.
func rolled(t Tri, by int) (r Tri) {
	for i := range 3 {
		j := (i + by) % 3
		r.Tri[i], r.Depth[i], r.Near[i], r.Colour[i] = t.Tri[j], t.Depth[j], t.Near[j], t.Colour[j]
	}
	return r
}

func TestMakeOfNoArea(t *testing.T) {
	c := right()
	flat := c
	flat[2].Point = edge.Point{X: 16, Y: 0}
	// Of no area only because the points are limited.
	beyond := c
	for i, p := range []edge.Point{{X: 16384, Y: 0}, {X: 16385, Y: 50}, {X: 16390, Y: 100}} {
		beyond[i].Point = p
	}
	far := c
	for i, p := range []edge.Point{{X: 0, Y: math.MinInt}, {X: 50, Y: -16384}, {X: 9, Y: -16385}} {
		far[i].Point = p
	}
	all := [][3]Corner{{}, {c[0], c[0], c[0]}, {c[0], c[0], c[1]}, {c[0], c[1], c[0]}, {c[1], c[0], c[0]}, flat, beyond, far}
	for _, cull := range culls {
		for _, corners := range all {
			wantMake(t, "no area", corners, cull, Tri{}, false)
		}
	}
}

func TestMakeLimitsThePoints(t *testing.T) {
	c, want := right(), made()
	c[0].Point = edge.Point{X: -16385, Y: math.MinInt}
	c[1].Point = edge.Point{X: math.MaxInt, Y: -16384}
	c[2].Point = edge.Point{X: -1 << 40, Y: 16385}
	want.Tri = edge.Tri{{X: -16384, Y: -16384}, {X: 16384, Y: -16384}, {X: -16384, Y: 16384}}
	wantMake(t, "points", c, state.Back, want, true)
	wantMake(t, "points, turned", [3]Corner{c[0], c[2], c[1]}, state.Front, want, true)
	// These are turned, but right once they are limited.
	c[0].Point = edge.Point{X: 0, Y: 0}
	c[1].Point = edge.Point{X: 20000, Y: 10000}
	c[2].Point = edge.Point{X: 16384, Y: 9000}
	want.Tri = edge.Tri{{X: 0, Y: 0}, {X: 16384, Y: 9000}, {X: 16384, Y: 10000}}
	want.Depth, want.Near = [3]int{100, 300, 200}, [3]int{1024, 341, 512}
	want.Colour[1], want.Colour[2] = want.Colour[2], want.Colour[1]
	wantMake(t, "turned within the limits", c, state.Front, want, true)
	c[2].Point = edge.Point{X: 30000, Y: 14000}
	want.Tri = edge.Tri{{X: 0, Y: 0}, {X: 16384, Y: 10000}, {X: 16384, Y: 14000}}
	want.Depth, want.Near, want.Colour = made().Depth, made().Near, made().Colour
	wantMake(t, "turned beyond the limits", c, state.Back, want, true)
}

func TestMakeLimitsDepths(t *testing.T) {
	rows := []struct{ depth, want int }{
		{0, 0}, {1, 1}, {65534, 65534}, {65535, 65535},
		{-1, 0}, {65536, 65535}, {-65536, 0}, {1 << 32, 65535}, {math.MinInt, 0}, {math.MaxInt, 65535},
	}
	for i := range 3 {
		for _, r := range rows {
			c, want := right(), made()
			c[i].Depth, want.Depth[i] = r.depth, r.want
			wantMake(t, "a depth", c, state.None, want, true)
		}
	}
}

func TestMakeLimitsColours(t *testing.T) {
	rows := []struct{ colour, want int }{
		{0, 0}, {1, 1}, {65535, 65535}, {65536, 65536},
		{-1, 0}, {65537, 65536}, {-65536, 0}, {1 << 32, 65536}, {math.MinInt, 0}, {math.MaxInt, 65536},
	}
	for i := range 3 {
		for j := range 4 {
			for _, r := range rows {
				c, want := right(), made()
				c[i].Colour[j], want.Colour[i][j] = r.colour, r.want
				wantMake(t, "a colour", c, state.None, want, true)
			}
		}
	}
}

func TestMakeNear(t *testing.T) {
	const most = api.MaxPlace
	rows := []struct{ far, want [3]int }{
		{[3]int{1000, 1000, 1000}, [3]int{1024, 1024, 1024}},
		{[3]int{1, 2, 3}, [3]int{1024, 512, 341}},
		{[3]int{3, 1, 2}, [3]int{341, 1024, 512}},
		{[3]int{2, 3, 1}, [3]int{512, 341, 1024}},
		{[3]int{1000, 1001, 999}, [3]int{1022, 1021, 1024}},
		// The quotient is 1, and 0.
		{[3]int{1, 1024, 1025}, [3]int{1024, 1, 1}},
		{[3]int{2048, 1, most}, [3]int{1, 1024, 1}},
		{[3]int{256, most, 512}, [3]int{1024, 1, 512}},
		// Below 1 it is 1.
		{[3]int{0, 1, 2}, [3]int{1024, 1024, 512}},
		{[3]int{2, -1, 4}, [3]int{512, 1024, 256}},
		{[3]int{8, 16, math.MinInt}, [3]int{128, 64, 1024}},
		{[3]int{0, -5, math.MinInt}, [3]int{1024, 1024, 1024}},
		// The smallest is at most MaxPlace, also where all are beyond.
		{[3]int{most, most, most}, [3]int{1024, 1024, 1024}},
		{[3]int{most, most + 1, 2 * most}, [3]int{1024, 1023, 512}},
		{[3]int{2 * most, 4 * most, 3 * most}, [3]int{512, 256, 341}},
		{[3]int{most + 1, most + 1, most + 1}, [3]int{1023, 1023, 1023}},
		{[3]int{math.MaxInt, math.MaxInt, math.MaxInt}, [3]int{1, 1, 1}},
		{[3]int{math.MaxInt, 1000, 1 << 40}, [3]int{1, 1024, 1}},
	}
	for _, r := range rows {
		c, want := right(), made()
		for i, far := range r.far {
			c[i].Far = far
		}
		want.Near = r.want
		wantMake(t, "Near", c, state.None, want, true)
	}
}

func TestMakeOfSamples(t *testing.T) {
	var s source = 2
	left := 0
	for range 50000 {
		c, cull := [3]Corner{s.corner(), s.corner(), s.corner()}, culls[s.below(len(culls))]
		want, ok := modelMake(c, cull)
		wantMake(t, "a sample", c, cull, want, ok)
		if ok {
			left++
		}
	}
	if left < 10000 {
		t.Errorf("only %d samples are triangles", left)
	}
}

func wantCheck(t *testing.T, what string, x Tri, want api.Errno) {
	t.Helper()
	if got := x.Check(); got != want {
		t.Errorf("P13.1: %s: Check of %v is %d, want %d", what, x, got, want)
	}
	if depth, colour, ok := x.At(0, 0); want != api.OK && (ok || depth != 0 || colour != vec.Vec{}) {
		t.Errorf("P13.2: %s: At of %v is %d, %v, %v", what, x, depth, colour, ok)
	}
}

// places returns where the numbers of a triangle are, with the range of each.
func places(x *Tri) (all []place) {
	for i := range 3 {
		all = append(all,
			place{"X", &x.Tri[i].X, -16384, 16384}, place{"Y", &x.Tri[i].Y, -16384, 16384},
			place{"Depth", &x.Depth[i], 0, 65535}, place{"Near", &x.Near[i], 1, 1024})
		for j := range 4 {
			all = append(all, place{"Colour", &x.Colour[i][j], 0, 65536})
		}
	}
	return all
}

type place struct {
	name        string
	at          *int
	least, most int
}

func TestCheckOfEachNumber(t *testing.T) {
	for i := range places(&Tri{}) {
		x := made()
		p := places(&x)[i]
		for _, n := range []int{p.least, p.most} {
			*p.at = n
			want := api.OK
			if x.Area() <= 0 {
				want = api.ErrForm
			}
			wantCheck(t, p.name+" at its limit", x, want)
		}
		for _, n := range []int{p.least - 1, p.most + 1, math.MinInt, math.MaxInt, 1<<32 + 1, 1 - 1<<32} {
			*p.at = n
			wantCheck(t, p.name+" beyond", x, api.ErrRange)
		}
	}
}

func TestCheckOfTheLimits(t *testing.T) {
	x := Tri{Tri: edge.Tri{{X: -16384, Y: -16384}, {X: 16384, Y: -16384}, {X: 16384, Y: 16384}}, Near: [3]int{1, 1, 1}}
	wantCheck(t, "the least numbers", x, api.OK)
	x.Depth, x.Near = [3]int{65535, 65535, 65535}, [3]int{1024, 1024, 1024}
	for i := range x.Colour {
		x.Colour[i] = vec.Vec{65536, 65536, 65536, 65536}
	}
	wantCheck(t, "the greatest numbers", x, api.OK)
	// No Near need be 1024: the corners may all be beyond MaxPlace.
	x.Near = [3]int{5, 6, 7}
	wantCheck(t, "no corner is the nearest", x, api.OK)
}

func TestCheckOfTheArea(t *testing.T) {
	x := made()
	wantCheck(t, "right", x, api.OK)
	x.Tri = x.Turned()
	wantCheck(t, "turned", x, api.ErrForm)
	x.Tri = edge.Tri{{X: 0, Y: 0}, {X: 32, Y: 0}, {X: 64, Y: 0}}
	wantCheck(t, "no area", x, api.ErrForm)
	x.Tri = edge.Tri{}
	wantCheck(t, "one point", x, api.ErrForm)
	x.Tri = edge.Tri{{X: 0, Y: 0}, {X: 1, Y: 0}, {X: 0, Y: 1}}
	wantCheck(t, "the least area", x, api.OK)
	wantCheck(t, "nothing", Tri{}, api.ErrRange)
	// The range is checked before the area, of whichever corner.
	for i := range 3 {
		x = made()
		x.Tri = x.Turned()
		x.Near[i] = 0
		wantCheck(t, "turned and out of range", x, api.ErrRange)
	}
}

func TestCheckOfSamples(t *testing.T) {
	var s source = 4
	for range 20000 {
		wantCheck(t, "a result of Make", s.tri(), api.OK)
	}
}
