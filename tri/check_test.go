package tri

import (
	"math"
	"testing"

	"azulejo/api"
	"azulejo/edge"
	"azulejo/setup"
)

func wantCheck(t *testing.T, what string, x Record, want api.Errno) {
	t.Helper()
	if got := x.Check(); got != want {
		t.Errorf("P14.1: %s: Check of %v is %d, want %d", what, x, got, want)
	}
}

func TestCheckOfDraws(t *testing.T) {
	for draw := range 32 {
		wantCheck(t, "without a triangle", Record{Draw: draw}, api.OK)
		wantCheck(t, "with a triangle", Record{Draw: draw, Some: true, Tri: sound()}, api.OK)
		wantCheck(t, "with the widest triangle", Record{Draw: draw, Some: true, Tri: widest()}, api.OK)
	}
	beyond := []int{-1, 32, -2, 33, 63, 64, 255, 256, -256, 1 << 32, -1 << 32, 5 + 1<<62, math.MaxInt, math.MinInt}
	for _, draw := range beyond {
		wantCheck(t, "no such draw", Record{Draw: draw}, api.ErrRange)
		wantCheck(t, "no such draw, with a triangle", Record{Draw: draw, Some: true, Tri: sound()}, api.ErrRange)
		wantCheck(t, "no such draw, no triangle", Record{Draw: draw, Some: true}, api.ErrRange)
		wantCheck(t, "no such draw, a triangle too many", Record{Draw: draw, Tri: sound()}, api.ErrRange)
		flat := sound()
		flat.Tri[1] = flat.Tri[0]
		wantCheck(t, "no such draw, no area", Record{Draw: draw, Some: true, Tri: flat}, api.ErrRange)
	}
}

// Each number is held at its limits and beyond them, alone and beside a negative area.
func TestCheckOfNumbers(t *testing.T) {
	for i, p := range places(&setup.Tri{}) {
		for _, n := range []int{p.least - 1, p.most + 1, math.MinInt, math.MaxInt} {
			x := Record{Draw: 31, Some: true, Tri: sound()}
			*places(&x.Tri)[i].at = n
			wantCheck(t, p.name+" beyond", x, api.ErrRange)
			x.Tri.Tri = x.Tri.Turned()
			wantCheck(t, p.name+" beyond, turned", x, api.ErrRange)
		}
		for _, n := range []int{p.least, p.most} {
			x := Record{Some: true, Tri: sound()}
			*places(&x.Tri)[i].at = n
			wantCheck(t, p.name+" at its limit", x, modelCheck(x))
		}
	}
}

func TestCheckOfAreas(t *testing.T) {
	x := Record{Some: true, Tri: sound()}
	x.Tri.Tri = edge.Tri{{X: 0, Y: 0}, {X: 1, Y: 0}, {X: 0, Y: 1}}
	wantCheck(t, "the least area", x, api.OK)
	x.Tri.Tri = edge.Tri{{X: 0, Y: 0}, {X: 0, Y: 1}, {X: 1, Y: 0}}
	wantCheck(t, "the least area, turned", x, api.ErrForm)
	x.Tri.Tri = edge.Tri{{X: 0, Y: 0}, {X: 1, Y: 1}, {X: 2, Y: 2}}
	wantCheck(t, "area 0", x, api.ErrForm)
	x.Tri.Tri = edge.Tri{}
	wantCheck(t, "one point", x, api.ErrForm)
	x.Tri.Tri = sound().Turned()
	wantCheck(t, "a negative area", x, api.ErrForm)
	wantCheck(t, "nothing, which has a Near of 0", Record{Some: true}, api.ErrRange)
}

// Without Some, no number may be left over, whether a triangle could have it or not.
func TestCheckWithoutTriangle(t *testing.T) {
	for i, p := range places(&setup.Tri{}) {
		for _, n := range []int{1, -1, p.least - 1, p.most + 1, 1 << 32, -1 << 32, math.MinInt, math.MaxInt} {
			if n == 0 {
				continue
			}
			x := Record{Draw: 7}
			*places(&x.Tri)[i].at = n
			wantCheck(t, p.name+" left over", x, api.ErrForm)
		}
	}
	wantCheck(t, "a whole triangle left over", Record{Tri: sound()}, api.ErrForm)
	bad := sound()
	bad.Depth[1] = -1
	wantCheck(t, "a bad triangle left over", Record{Tri: bad}, api.ErrForm)
	wantCheck(t, "nothing", Record{}, api.OK)
}

func TestCheckOfSamples(t *testing.T) {
	var s source = 1
	counts := map[api.Errno]int{}
	for range 50000 {
		x := s.faulty()
		kept, want := x, modelCheck(x)
		wantCheck(t, "a sample", x, want)
		wantCheck(t, "a sample again (R8)", x, want)
		if x != kept {
			t.Errorf("R6: Check changed %v to %v", kept, x)
		}
		counts[want]++
	}
	if counts[api.OK] < 1000 || counts[api.ErrRange] < 1000 || counts[api.ErrForm] < 1000 {
		t.Errorf("the samples are not mixed: %v", counts)
	}
}
