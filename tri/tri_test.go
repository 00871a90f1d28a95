package tri

import (
	"math"

	"azulejo/api"
	"azulejo/edge"
	"azulejo/setup"
	"azulejo/vec"
)

// source draws from a fixed sequence, so that every run has the same samples.
type source uint32

func (s *source) below(n int) int {
	*s = *s*1664525 + 1013904223
	return int(*s>>8) % n
}

// around draws a number that is at most some distance from another.
func (s *source) around(n, far int) int { return n + s.below(2*far+1) - far }

// edges are numbers at which something changes: signs, the limits of each range, and of int.
var edges = []int{
	0, 1, -1, 2, 30, 31, 32, 33, 63, 64, 1023, 1024, 1025, 16383, 16384, 16385, -16383, -16384, -16385,
	65534, 65535, 65536, 65537, 1 << 20, 1<<20 + 1, -1 << 20, -1<<20 - 1, 1 << 31, -1 << 31, 1 << 40, -1 << 40,
	1 << 62, -1 << 62, math.MaxInt, math.MaxInt - 1, math.MinInt, math.MinInt + 1,
}

// place is where a number of a triangle is, and its range.
type place struct {
	name        string
	at          *int
	least, most int
}

// places are all 24 numbers in the order of the encoding.
func places(t *setup.Tri) (all []place) {
	names := [3]string{"first", "second", "third"}
	for i, name := range names {
		all = append(all,
			place{name + " X", &t.Tri[i].X, -16384, 16384},
			place{name + " Y", &t.Tri[i].Y, -16384, 16384},
			place{name + " depth", &t.Depth[i], 0, 65535},
			place{name + " Near", &t.Near[i], 1, 1024},
			place{name + " red", &t.Colour[i][0], 0, 65536},
			place{name + " green", &t.Colour[i][1], 0, 65536},
			place{name + " blue", &t.Colour[i][2], 0, 65536},
			place{name + " alpha", &t.Colour[i][3], 0, 65536},
		)
	}
	return all
}

// sound is a triangle whose numbers can all be told apart.
func sound() setup.Tri {
	return setup.Tri{
		Tri:    edge.Tri{{X: 10, Y: 20}, {X: 500, Y: -40}, {X: -300, Y: 700}},
		Depth:  [3]int{1000, 999, 65535},
		Near:   [3]int{1, 1024, 500},
		Colour: [3]vec.Vec{{0, 65536, 3, 64}, {65536, 0, 67, 0}, {2, 1, 3, 63}},
	}
}

// widest is a triangle whose differences are as long as may be: three bytes each, and two for Near.
func widest() setup.Tri {
	full := vec.Vec{65536, 65536, 65536, 65536}
	return setup.Tri{
		Tri:    edge.Tri{{X: -16384, Y: -16384}, {X: 16384, Y: 0}, {X: -16384, Y: 16384}},
		Depth:  [3]int{65535, 0, 65535},
		Near:   [3]int{1024, 1, 1024},
		Colour: [3]vec.Vec{full, {}, full},
	}
}

// area is twice the area of three points, above 0 if they go clockwise on the picture.
func area(p edge.Tri) int {
	return (p[1].X-p[0].X)*(p[2].Y-p[0].Y) - (p[1].Y-p[0].Y)*(p[2].X-p[0].X)
}

// modelCheck follows the chapters of setup and tri.
func modelCheck(x Record) api.Errno {
	if x.Draw < 0 || x.Draw > 31 {
		return api.ErrRange
	}
	if !x.Some {
		for _, p := range places(&x.Tri) {
			if *p.at != 0 {
				return api.ErrForm
			}
		}
		return api.OK
	}
	for _, p := range places(&x.Tri) {
		if *p.at < p.least || *p.at > p.most {
			return api.ErrRange
		}
	}
	if area(x.Tri.Tri) <= 0 {
		return api.ErrForm
	}
	return api.OK
}

// tri draws a valid triangle, often a small one, often at the limits.
func (s *source) tri() (t setup.Tri) {
	for area(t.Tri) <= 0 {
		far := []int{20, 600, 40000}[s.below(3)]
		all := places(&t)
		for i, p := range all {
			near := (p.least + p.most) / 2
			if i >= 8 {
				near = *all[i-8].at
			}
			*p.at = max(p.least, min(s.around(near, far), p.most))
		}
	}
	return t
}

// record draws a valid record.
func (s *source) record() Record {
	x := Record{Draw: s.below(32), Some: s.below(4) > 0}
	if x.Some {
		x.Tri = s.tri()
	}
	return x
}

// faulty draws a record that may have errors.
func (s *source) faulty() Record {
	x := s.record()
	if s.below(3) == 0 {
		x.Draw = edges[s.below(len(edges))]
	}
	if s.below(4) == 0 {
		x.Some = !x.Some
	}
	for range s.below(3) {
		*places(&x.Tri)[s.below(24)].at = edges[s.below(len(edges))]
	}
	if s.below(4) == 0 {
		x.Tri.Tri[1], x.Tri.Tri[2] = x.Tri.Tri[2], x.Tri.Tri[1]
	}
	return x
}
