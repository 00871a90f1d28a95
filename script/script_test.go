package script

import (
	"bytes"
	"fmt"
	"math"
	"reflect"
	"slices"
	"testing"

	"azulejo/api"
	"azulejo/isa"
	"azulejo/mesh"
	"azulejo/state"
	"azulejo/vec"
)

// source draws from a fixed sequence, so that every run has the same samples.
type source uint32

func (s *source) below(n int) int {
	*s = *s*1664525 + 1013904223
	return int(*s>>8) % n
}

// within draws a number from -most to most, often one of the limits or one near 0.
func (s *source) within(most int) int {
	switch s.below(4) {
	case 0:
		return s.below(5) - 2
	case 1:
		return []int{most, -most}[s.below(2)]
	}
	return (s.below(1<<24)<<24|s.below(1<<24))%(2*most+1) - most
}

// plain is state's Plain, written out.
func plain() state.State {
	return state.State{Depth: 7, Stencil: 7, Channels: 15, Scissor: state.Box{X1: 64, Y1: 64}}
}

// other is a state that differs from plain in every field.
func other() state.State {
	return state.State{
		Depth: 1, Write: true, Stencil: 2, Ref: 3, Mask: 4, Fail: 5, Hidden: 1, Pass: 2,
		Blend: 3, Channels: 7, Cull: 2, Scissor: state.Box{X0: 1, Y0: 2, X1: 3, Y1: 4},
	}
}

// whole is a valid script with some of everything, no two of which are the same.
func whole() Script {
	return Script{
		W: 16, H: 9,
		Matrix: vec.Mat{{65536, 1, 2, 3}, {-4, -65536, 5, 6}, {7, -8, 70000, 9}, {10, 11, -12, api.MaxQ}},
		Vertices: []Vertex{
			{Place: vec.Vec{-60000, -60001, 30000, 65536}, Colour: vec.Vec{65536, 1, 2, 3}},
			{Place: vec.Vec{60000, -60002, 30001, 65537}, Colour: vec.Vec{4, 65535, 5, 6}},
			{Place: vec.Vec{-60003, 60000, 30002, 65538}, Colour: vec.Vec{7, 8, -65534, 9}},
			{Place: vec.Vec{60004, 60005, 30003, 65539}, Colour: vec.Vec{10, 11, 12, api.MaxPlace}},
		},
		Shapers:  []isa.Program{{}, {{Op: isa.Mat, Dst: 1, A: 4, B: 2, Imm: -5}, {Op: isa.End}}},
		Painters: []isa.Program{{{Op: isa.Discard, Dst: 3, A: 1, B: 2, Imm: 300}}, {}, {{Op: isa.Mov, A: 1}}},
		Draws: []Draw{
			{State: plain(), Clears: true, Clear: Clear{Colour: [4]uint8{1, 2, 3, 255}, Depth: 60000, Stencil: 128, Wanted: 7}},
			{State: other(), Vertex: 1, Fragment: 2, Kind: mesh.List, Indices: []int{0, 1, 2, 2, 1, 3}},
			{State: plain(), Kind: mesh.Strip, Indices: []int{3, 2, 1, 0}},
			{State: plain(), Fragment: 1, Kind: mesh.Fan, Indices: []int{1, 2, 3, 0, 1}},
			{State: other(), Clears: true},
		},
	}
}

// with returns the whole script after some changes.
func with(changes ...func(s *Script)) Script {
	s := whole()
	for _, change := range changes {
		change(&s)
	}
	return s
}

// drawing returns a script of four vertices that has nothing but one draw.
func drawing(d Draw) Script {
	s := Script{W: 8, H: 8, Vertices: make([]Vertex, 4), Shapers: make([]isa.Program, 2), Painters: make([]isa.Program, 3)}
	s.Draws = []Draw{d}
	return s
}

func clearing(c Clear) Script { return drawing(Draw{State: plain(), Clears: true, Clear: c}) }

// shown tells a script apart from every other one, but for nil and empty lists.
func shown(s Script) string { return fmt.Sprintf("%v", s) }

func wantCheck(t *testing.T, what string, s Script, err api.Errno) {
	t.Helper()
	if e := s.Check(); e != err {
		t.Errorf("P11.1: %s: Check error %d, want %d: %v", what, e, err, s)
	}
}

func ends() []int { return []int{math.MinInt, math.MinInt + 1, math.MaxInt - 1, math.MaxInt} }

func TestCheckAccepts(t *testing.T) {
	wantCheck(t, "nothing to draw", Script{W: 8, H: 8}, api.OK)
	wantCheck(t, "empty lists", Script{W: 8, H: 8, Vertices: []Vertex{}, Shapers: []isa.Program{}, Painters: []isa.Program{}, Draws: []Draw{}}, api.OK)
	wantCheck(t, "some of everything", whole(), api.OK)
	wantCheck(t, "a clear without programs", Script{W: 1, H: 64, Draws: []Draw{{Clears: true}}}, api.OK)
	wantCheck(t, "only clears", Script{W: 1, H: 64, Draws: slices.Repeat([]Draw{{State: plain(), Clears: true}}, 32)}, api.OK)
	for _, k := range []mesh.Kind{mesh.List, mesh.Strip, mesh.Fan} {
		wantCheck(t, "triangles", drawing(Draw{State: plain(), Kind: k, Indices: []int{0, 1, 2}}), api.OK)
		wantCheck(t, "no triangles", drawing(Draw{State: plain(), Kind: k}), api.OK)
		wantCheck(t, "as many indices as may be", drawing(Draw{State: plain(), Kind: k, Indices: slices.Repeat([]int{3}, 96)}), api.OK)
	}
	s := Script{W: 8, H: 8, Shapers: make([]isa.Program, 1), Painters: make([]isa.Program, 1), Draws: []Draw{{}}}
	wantCheck(t, "no indices and no vertices", s, api.OK)
	wantCheck(t, "the greatest script", greatest(), api.OK)
}

func TestCheckSides(t *testing.T) {
	for n := -100; n < 200; n++ {
		err := api.ErrSize
		if n >= 1 && n <= 64 {
			err = api.OK
		}
		wantCheck(t, "W", with(func(s *Script) { s.W = n }), err)
		wantCheck(t, "H", with(func(s *Script) { s.H = n }), err)
		wantCheck(t, "both", with(func(s *Script) { s.W, s.H = n, n }), err)
	}
	for _, n := range ends() {
		wantCheck(t, "W", with(func(s *Script) { s.W = n }), api.ErrSize)
		wantCheck(t, "H", with(func(s *Script) { s.H = n }), api.ErrSize)
	}
	wantCheck(t, "everything zero", Script{}, api.ErrSize)
}

func TestCheckNumbersOfItems(t *testing.T) {
	at := func(n, most int) api.Errno {
		if n > most {
			return api.ErrMany
		}
		return api.OK
	}
	for n := range 100 {
		wantCheck(t, "vertices", Script{W: 8, H: 8, Vertices: make([]Vertex, n)}, at(n, 64))
		wantCheck(t, "shapers", Script{W: 8, H: 8, Shapers: make([]isa.Program, n)}, at(n, 4))
		wantCheck(t, "painters", Script{W: 8, H: 8, Painters: make([]isa.Program, n)}, at(n, 4))
		wantCheck(t, "clears", Script{W: 8, H: 8, Draws: slices.Repeat([]Draw{{Clears: true}}, n)}, at(n, 32))
		s := drawing(Draw{})
		s.Draws = make([]Draw, n)
		wantCheck(t, "draws", s, at(n, 32))
	}
	room := Script{
		W: 8, H: 8,
		Vertices: make([]Vertex, 100)[:64], Shapers: make([]isa.Program, 100)[:4],
		Painters: make([]isa.Program, 100)[:4], Draws: make([]Draw, 100)[:32],
	}
	wantCheck(t, "spare capacity", room, api.OK)
}

// limit is a number and the error that it is where its absolute value may be most.
type limit struct {
	n   int
	err api.Errno
}

func limits(most int) []limit {
	l := []limit{{0, api.OK}, {1, api.OK}, {-1, api.OK}, {most - 1, api.OK}, {1 - most, api.OK}, {most, api.OK}, {-most, api.OK}}
	for _, n := range append(ends(), most+1, -most-1, 2*most, -2*most, 1<<32, -1<<32, 1<<33, 1<<62, -1<<62) {
		l = append(l, limit{n, api.ErrRange})
	}
	return l
}

func TestCheckMatrix(t *testing.T) {
	for _, l := range limits(math.MaxInt32) {
		for i := range 4 {
			for j := range 4 {
				wantCheck(t, "a number of the matrix", with(func(s *Script) { s.Matrix[i][j] = l.n }), l.err)
			}
		}
	}
}

func TestCheckVertices(t *testing.T) {
	for _, l := range limits(4194304) {
		for i := range whole().Vertices {
			for j := range 4 {
				wantCheck(t, "a number of a place", with(func(s *Script) { s.Vertices[i].Place[j] = l.n }), l.err)
				wantCheck(t, "a number of a colour", with(func(s *Script) { s.Vertices[i].Colour[j] = l.n }), l.err)
			}
		}
	}
}

func TestCheckPrograms(t *testing.T) {
	for _, c := range []struct {
		p   isa.Program
		err api.Errno
	}{
		{nil, api.OK},
		{isa.Program{{Op: isa.Mat, A: 8}}, api.OK},
		{make(isa.Program, 24), api.OK},
		{make(isa.Program, 25), api.ErrMany},
		{isa.Program{{Op: isa.Ops}}, api.ErrKind},
		{isa.Program{{}, {Op: 255}}, api.ErrKind},
		{isa.Program{{Dst: 12}}, api.ErrRange},
		{isa.Program{{Op: isa.Mat, A: 9}}, api.ErrRange},
		{isa.Program{{Op: isa.Loop, B: 1, Imm: 9}, {}}, api.ErrProgram},
		{isa.Program{{Op: isa.Skip, Imm: 1}}, api.ErrProgram},
	} {
		for i := range 4 {
			wantCheck(t, "a shaper", with(func(s *Script) { s.Shapers = make([]isa.Program, 4); s.Shapers[i] = c.p }), c.err)
			wantCheck(t, "a painter", with(func(s *Script) { s.Painters = make([]isa.Program, 4); s.Painters[i] = c.p }), c.err)
		}
	}
}

func TestCheckDiscards(t *testing.T) {
	p := isa.Program{{}, {Op: isa.Discard}}
	for i := range 4 {
		wantCheck(t, "a Discard in a painter", with(func(s *Script) { s.Painters = make([]isa.Program, 4); s.Painters[i] = p }), api.OK)
		wantCheck(t, "a Discard in a shaper", with(func(s *Script) { s.Shapers = make([]isa.Program, 4); s.Shapers[i] = p }), api.ErrKind)
	}
}

func TestCheckStates(t *testing.T) {
	for _, c := range []struct {
		change func(s *state.State)
		err    api.Errno
	}{
		{func(s *state.State) { s.Depth = 8 }, api.ErrState},
		{func(s *state.State) { s.Stencil = 255 }, api.ErrState},
		{func(s *state.State) { s.Fail = 6 }, api.ErrState},
		{func(s *state.State) { s.Hidden = 6 }, api.ErrState},
		{func(s *state.State) { s.Pass = 6 }, api.ErrState},
		{func(s *state.State) { s.Blend = 4 }, api.ErrState},
		{func(s *state.State) { s.Channels = 16 }, api.ErrState},
		{func(s *state.State) { s.Cull = 3 }, api.ErrState},
		{func(s *state.State) { s.Scissor.X0 = -1 }, api.ErrRange},
		{func(s *state.State) { s.Scissor.Y1 = 65 }, api.ErrRange},
		{func(s *state.State) { s.Scissor = state.Box{X0: 5, X1: 4} }, api.ErrRange},
		{func(s *state.State) { s.Scissor = state.Box{Y0: 5, Y1: 4} }, api.ErrRange},
		{func(s *state.State) { s.Scissor = state.Box{X0: math.MinInt, X1: math.MaxInt} }, api.ErrRange},
		{func(s *state.State) { s.Scissor = state.Box{X0: 64, Y0: 64, X1: 64, Y1: 64} }, api.OK},
		{func(s *state.State) { *s = state.State{} }, api.OK},
	} {
		// Draws 0 and 4 are clears, and their states count, too.
		for i := range whole().Draws {
			wantCheck(t, "a state", with(func(s *Script) { c.change(&s.Draws[i].State) }), c.err)
		}
	}
}

func TestCheckClears(t *testing.T) {
	for _, depth := range []int{0, 1, 65534, 65535} {
		wantCheck(t, "a depth", clearing(Clear{Depth: depth}), api.OK)
	}
	for _, depth := range append(ends(), -1, -2, -65535, 65536, 65537, 1<<16+1<<32, 1<<32) {
		wantCheck(t, "no depth", clearing(Clear{Depth: depth}), api.ErrRange)
		wantCheck(t, "no depth, though it is not wanted", clearing(Clear{Depth: depth, Wanted: 5}), api.ErrRange)
	}
	for wanted := range 256 {
		err := api.OK
		if wanted > 7 {
			err = api.ErrRange
		}
		wantCheck(t, "Wanted", clearing(Clear{Depth: 9, Wanted: uint8(wanted)}), err)
		wantCheck(t, "any colour and stencil value", clearing(Clear{Colour: [4]uint8{255, 0, uint8(wanted), 1}, Stencil: uint8(wanted)}), api.OK)
	}
}

func TestCheckProgramsOfDraws(t *testing.T) {
	for _, i := range append(ends(), -2, -1, 0, 1, 2, 3, 4, 5, 64) {
		vertex, fragment := api.ErrNone, api.ErrNone
		if i >= 0 && i < 2 {
			vertex = api.OK
		}
		if i >= 0 && i < 3 {
			fragment = api.OK
		}
		wantCheck(t, "a shaper of two", drawing(Draw{State: plain(), Vertex: i}), vertex)
		wantCheck(t, "a painter of three", drawing(Draw{State: plain(), Fragment: i}), fragment)
	}
	none := drawing(Draw{State: plain()})
	none.Shapers = nil
	wantCheck(t, "no shapers", none, api.ErrNone)
	none = drawing(Draw{State: plain()})
	none.Painters = nil
	wantCheck(t, "no painters", none, api.ErrNone)
}

func TestCheckMeshes(t *testing.T) {
	for k := range 256 {
		for _, l := range [][]int{nil, {0}, {0, 1}, {0, 1, 2}, {0, 1, 2, 3}, {0, 1, 4}, {3, 3, -1}, {0, 1, math.MaxInt}, {math.MinInt, 0, 0}, make([]int, 96), make([]int, 97)} {
			d := Draw{State: plain(), Kind: mesh.Kind(k), Indices: l}
			wantCheck(t, "a mesh", drawing(d), mesh.Check(mesh.Kind(k), l, 4))
		}
	}
	for n := range 65 {
		s := Script{W: 8, H: 8, Vertices: make([]Vertex, n), Shapers: make([]isa.Program, 1), Painters: make([]isa.Program, 1)}
		s.Draws = []Draw{{Kind: mesh.Fan, Indices: []int{0, n - 1, 0}}}
		if n > 0 {
			wantCheck(t, "the last vertex", s, api.OK)
		}
		s.Draws = []Draw{{Kind: mesh.Fan, Indices: []int{n, 0, 0}}}
		wantCheck(t, "one beyond the last vertex", s, api.ErrIndex)
	}
}

// The fields of triangles do not count for a clear, nor those of a clear for triangles.
func TestCheckIgnores(t *testing.T) {
	bad := Draw{State: plain(), Clears: true, Vertex: -1, Fragment: math.MaxInt, Kind: 200, Indices: slices.Repeat([]int{-1}, 100)}
	wantCheck(t, "a clear with fields of triangles", drawing(bad), api.OK)
	bad.Clear = Clear{Depth: 65536}
	wantCheck(t, "a clear with fields of triangles, and no depth", drawing(bad), api.ErrRange)
	for _, c := range []Clear{{Depth: -1}, {Depth: 65536}, {Wanted: 8}, {Depth: math.MinInt, Wanted: 255}} {
		wantCheck(t, "triangles with fields of a clear", drawing(Draw{State: plain(), Clear: c, Indices: []int{0, 1, 2}}), api.OK)
		wantCheck(t, "triangles with fields of a clear, and no shaper", drawing(Draw{State: plain(), Clear: c, Vertex: -1}), api.ErrNone)
	}
}

// fault is a change of the whole script that makes it invalid; all faults can be had at once.
type fault struct {
	name   string
	err    api.Errno
	change func(s *Script)
}

// faults are in the order in which the chapter names them.
func faults() []fault {
	return slices.Concat(faultsOfAll(), faultsOfPrograms(), faultsOfDraws())
}

func faultsOfAll() []fault {
	return []fault{
		{"W", api.ErrSize, func(s *Script) { s.W = 0 }},
		{"H", api.ErrSize, func(s *Script) { s.H = 65 }},
		{"vertices", api.ErrMany, func(s *Script) { s.Vertices = append(s.Vertices, make([]Vertex, 61)...) }},
		{"shapers", api.ErrMany, func(s *Script) { s.Shapers = append(s.Shapers, make([]isa.Program, 3)...) }},
		{"painters", api.ErrMany, func(s *Script) { s.Painters = append(s.Painters, make([]isa.Program, 2)...) }},
		{"draws", api.ErrMany, func(s *Script) { s.Draws = append(s.Draws, make([]Draw, 28)...) }},
		{"matrix", api.ErrRange, func(s *Script) { s.Matrix[3][3] = api.MaxQ + 1 }},
		{"place", api.ErrRange, func(s *Script) { s.Vertices[0].Place[0] = -api.MaxPlace - 1 }},
		{"colour", api.ErrRange, func(s *Script) { s.Vertices[3].Colour[3] = api.MaxPlace + 1 }},
	}
}

func faultsOfPrograms() []fault {
	return []fault{
		{"first shaper", api.ErrKind, func(s *Script) { s.Shapers[0] = isa.Program{{Op: isa.Discard}} }},
		{"second shaper", api.ErrProgram, func(s *Script) { s.Shapers[1] = isa.Program{{Op: isa.Skip}} }},
		{"first painter", api.ErrMany, func(s *Script) { s.Painters[0] = make(isa.Program, 25) }},
		{"second painter", api.ErrKind, func(s *Script) { s.Painters[1] = isa.Program{{Op: isa.Ops}} }},
		{"third painter", api.ErrRange, func(s *Script) { s.Painters[2] = isa.Program{{A: 12}} }},
	}
}

func faultsOfDraws() []fault {
	return []fault{
		{"state of a clear", api.ErrState, func(s *Script) { s.Draws[0].Cull = 3 }},
		{"depth", api.ErrRange, func(s *Script) { s.Draws[0].Clear.Depth = 65536 }},
		{"Wanted", api.ErrRange, func(s *Script) { s.Draws[0].Clear.Wanted = 8 }},
		{"state of triangles", api.ErrState, func(s *Script) { s.Draws[1].State.Depth = 8 }},
		{"scissor", api.ErrRange, func(s *Script) { s.Draws[1].Scissor.X1 = 65 }},
		{"shaper", api.ErrNone, func(s *Script) { s.Draws[1].Vertex = 70 }},
		{"number of a list", api.ErrSize, func(s *Script) { s.Draws[1].Indices = append(s.Draws[1].Indices, 0) }},
		{"painter", api.ErrNone, func(s *Script) { s.Draws[2].Fragment = 70 }},
		{"kind", api.ErrKind, func(s *Script) { s.Draws[2].Kind = 4 }},
		{"number of indices", api.ErrMany, func(s *Script) { s.Draws[2].Indices = append(s.Draws[2].Indices, make([]int, 93)...) }},
		{"index of a strip", api.ErrIndex, func(s *Script) { s.Draws[2].Indices[1] = 4 }},
		{"index of a fan", api.ErrIndex, func(s *Script) { s.Draws[3].Indices[2] = 4 }},
		{"state of the last clear", api.ErrState, func(s *Script) { s.Draws[4].Channels = 16 }},
		{"last clear", api.ErrRange, func(s *Script) { s.Draws[4].Clear.Wanted = 255 }},
	}
}

func TestCheckOrder(t *testing.T) {
	l := faults()
	for i, first := range l {
		wantCheck(t, first.name, with(first.change), first.err)
		for _, second := range l[i+1:] {
			wantCheck(t, first.name+" and "+second.name, with(first.change, second.change), first.err)
			wantCheck(t, second.name+" and "+first.name, with(second.change, first.change), first.err)
		}
		var rest []func(s *Script)
		for _, f := range l[i:] {
			rest = append(rest, f.change)
		}
		wantCheck(t, first.name+" and all after it", with(rest...), first.err)
	}
}

// change is one by which the whole script becomes another one.
type change struct {
	name string
	make func(s *Script)
}

func changes() []change {
	l := []change{
		{"W", func(s *Script) { s.W++ }},
		{"H", func(s *Script) { s.H-- }},
		{"sides exchanged", func(s *Script) { s.W, s.H = s.H, s.W }},
		{"W that is not valid", func(s *Script) { s.W = -1 }},
		{"no vertices", func(s *Script) { s.Vertices = nil }},
		{"a vertex less", func(s *Script) { s.Vertices = s.Vertices[:3] }},
		{"a vertex more", func(s *Script) { s.Vertices = append(s.Vertices, Vertex{}) }},
		{"vertices exchanged", func(s *Script) { s.Vertices[0], s.Vertices[1] = s.Vertices[1], s.Vertices[0] }},
		{"place and colour exchanged", func(s *Script) {
			s.Vertices[2] = Vertex{Place: s.Vertices[2].Colour, Colour: s.Vertices[2].Place}
		}},
		{"no draws", func(s *Script) { s.Draws = nil }},
		{"a draw less", func(s *Script) { s.Draws = s.Draws[:4] }},
		{"a draw more", func(s *Script) { s.Draws = append(s.Draws, Draw{}) }},
		{"draws exchanged", func(s *Script) { s.Draws[2], s.Draws[3] = s.Draws[3], s.Draws[2] }},
	}
	for i := range 4 {
		for j := range 4 {
			l = append(l, change{"matrix", func(s *Script) { s.Matrix[i][j]++ }})
			l = append(l, change{"place", func(s *Script) { s.Vertices[i].Place[j]-- }})
			l = append(l, change{"colour", func(s *Script) { s.Vertices[i].Colour[j]++ }})
		}
	}
	return slices.Concat(l, changesOfPrograms(), changesOfStates(), changesOfDraws())
}

func changesOfPrograms() []change {
	l := []change{
		{"shapers and painters exchanged", func(s *Script) { s.Shapers, s.Painters = s.Painters, s.Shapers }},
		{"no shapers", func(s *Script) { s.Shapers = nil }},
		{"no painters", func(s *Script) { s.Painters = nil }},
		{"a shaper less", func(s *Script) { s.Shapers = s.Shapers[1:] }},
		{"a painter less", func(s *Script) { s.Painters = s.Painters[:2] }},
		{"an empty shaper more", func(s *Script) { s.Shapers = append(s.Shapers, nil) }},
		{"an empty painter more", func(s *Script) { s.Painters = append(s.Painters, nil) }},
		{"an empty program is filled", func(s *Script) { s.Shapers[0] = isa.Program{{}} }},
		{"a program is emptied", func(s *Script) { s.Painters[0] = nil }},
		{"an instruction less", func(s *Script) { s.Shapers[1] = s.Shapers[1][:1] }},
		{"an instruction more", func(s *Script) { s.Shapers[1] = append(s.Shapers[1], isa.Instr{}) }},
		{"instructions exchanged", func(s *Script) { slices.Reverse(s.Shapers[1]) }},
	}
	for _, f := range []func(in *isa.Instr){
		func(in *isa.Instr) { in.Op++ },
		func(in *isa.Instr) { in.Dst++ },
		func(in *isa.Instr) { in.A++ },
		func(in *isa.Instr) { in.B++ },
		func(in *isa.Instr) { in.Imm = -in.Imm - 1 },
	} {
		l = append(l, change{"an instruction of a shaper", func(s *Script) { f(&s.Shapers[1][1]) }})
		l = append(l, change{"an instruction of a painter", func(s *Script) { f(&s.Painters[0][0]) }})
		l = append(l, change{"an instruction of the last painter", func(s *Script) { f(&s.Painters[2][0]) }})
	}
	return l
}

// changesOfStates set one field of each draw to the value that it does not have.
func changesOfStates() []change {
	var l []change
	a, b := plain(), other()
	for field := range reflect.TypeOf(a).NumField() {
		for i := range whole().Draws {
			l = append(l, change{"state", func(s *Script) {
				have := reflect.ValueOf(&s.Draws[i].State).Elem().Field(field)
				value := reflect.ValueOf(a).Field(field)
				if have.Interface() == value.Interface() {
					value = reflect.ValueOf(b).Field(field)
				}
				have.Set(value)
			}})
		}
	}
	for i := range whole().Draws {
		l = append(l, change{"scissor", func(s *Script) { s.Draws[i].Scissor.X0++ }})
		l = append(l, change{"scissor", func(s *Script) { s.Draws[i].Scissor.Y0++ }})
		l = append(l, change{"scissor", func(s *Script) { s.Draws[i].Scissor.X1-- }})
		l = append(l, change{"scissor", func(s *Script) { s.Draws[i].Scissor.Y1-- }})
	}
	return l
}

func changesOfDraws() []change {
	l := []change{
		{"an index less", func(s *Script) { s.Draws[2].Indices = s.Draws[2].Indices[:3] }},
		{"an index more", func(s *Script) { s.Draws[3].Indices = append(s.Draws[3].Indices, 0) }},
		{"indices exchanged", func(s *Script) { slices.Reverse(s.Draws[2].Indices) }},
		{"no indices", func(s *Script) { s.Draws[1].Indices = nil }},
		{"depth", func(s *Script) { s.Draws[0].Clear.Depth++ }},
		{"stencil value", func(s *Script) { s.Draws[0].Clear.Stencil++ }},
		{"Wanted", func(s *Script) { s.Draws[0].Clear.Wanted-- }},
		{"depth that is not wanted", func(s *Script) { s.Draws[4].Clear.Depth++ }},
		{"stencil value that is not wanted", func(s *Script) { s.Draws[4].Clear.Stencil++ }},
	}
	for j := range 4 {
		l = append(l, change{"a clear's colour", func(s *Script) { s.Draws[0].Clear.Colour[j]++ }})
		l = append(l, change{"a clear's colour that is not wanted", func(s *Script) { s.Draws[4].Clear.Colour[j]++ }})
		l = append(l, change{"index", func(s *Script) { s.Draws[2].Indices[j] = 3 - (j+1)%4 }})
	}
	for i := range 5 {
		l = append(l, change{"clears", func(s *Script) { s.Draws[i].Clears = !s.Draws[i].Clears }})
	}
	for i := 1; i < 4; i++ {
		l = append(l, change{"shaper", func(s *Script) { s.Draws[i].Vertex = 1 - s.Draws[i].Vertex }})
		l = append(l, change{"painter", func(s *Script) { s.Draws[i].Fragment = (s.Draws[i].Fragment + 1) % 3 }})
		l = append(l, change{"kind", func(s *Script) { s.Draws[i].Kind++ }})
	}
	return l
}

func wantSame(t *testing.T, what string, a, b Script, same bool) {
	t.Helper()
	if x, y := Same(a, b), Same(b, a); x != same || y != same {
		t.Errorf("P11.2: %s: Same %v and, exchanged, %v, want %v: %v and %v", what, x, y, same, a, b)
	}
}

func TestSame(t *testing.T) {
	wantSame(t, "everything zero", Script{}, Script{}, true)
	wantSame(t, "the whole script", whole(), whole(), true)
	wantSame(t, "the greatest script", greatest(), greatest(), true)
	wantSame(t, "something and nothing", whole(), Script{}, false)
	s := whole()
	wantSame(t, "one and the same", s, s, true)
}

func TestSameOfOneChange(t *testing.T) {
	l := changes()
	for i, c := range l {
		wantSame(t, c.name, whole(), with(c.make), false)
		wantSame(t, c.name+", in both", with(c.make), with(c.make), true)
		for _, d := range l[i+1:] {
			one, two := with(c.make), with(d.make)
			if shown(one) != shown(two) {
				wantSame(t, c.name+" and "+d.name, one, two, false)
			}
		}
	}
}

func TestSameOfNilAndEmpty(t *testing.T) {
	none := Script{W: 8, H: 8}
	empty := Script{W: 8, H: 8, Vertices: []Vertex{}, Shapers: []isa.Program{}, Painters: []isa.Program{}, Draws: []Draw{}}
	wantSame(t, "lists", none, empty, true)
	none.Shapers, none.Painters = []isa.Program{nil}, []isa.Program{nil, {}}
	empty.Shapers, empty.Painters = []isa.Program{{}}, []isa.Program{{}, nil}
	wantSame(t, "programs", none, empty, true)
	none.Draws, empty.Draws = []Draw{{}}, []Draw{{Indices: []int{}}}
	wantSame(t, "indices", none, empty, true)
	room := with(func(s *Script) { s.Vertices = append(make([]Vertex, 0, 99), s.Vertices...) })
	wantSame(t, "spare capacity", whole(), room, true)
}

// ignored sets the fields that do not belong to the draws, if there are such.
func ignored(s Script, n int) Script {
	s.Draws = slices.Clone(s.Draws)
	for i := range s.Draws {
		d := &s.Draws[i]
		if d.Clears {
			d.Vertex, d.Fragment, d.Kind, d.Indices = n, -n, mesh.Kind(n), slices.Repeat([]int{n}, n%120)
		} else {
			d.Clear = Clear{Colour: [4]uint8{uint8(n), 1, 2, 3}, Depth: -n, Stencil: uint8(n), Wanted: uint8(n)}
		}
	}
	return s
}

func TestSameIgnores(t *testing.T) {
	for n := range 300 {
		wantSame(t, "other fields", whole(), ignored(whole(), n), true)
		wantSame(t, "other fields in both", ignored(whole(), n), ignored(whole(), n+1), true)
	}
	for _, c := range changes() {
		wantSame(t, c.name+" and other fields", ignored(whole(), 5), with(c.make), false)
	}
}

func TestSameOfBadScripts(t *testing.T) {
	for _, f := range faults() {
		wantSame(t, f.name, with(f.change), with(f.change), true)
		wantSame(t, f.name, with(f.change), whole(), false)
	}
	least := with(func(s *Script) { s.W, s.Matrix[0][0], s.Draws[1].Indices[0] = math.MinInt, math.MinInt, math.MinInt })
	most := with(func(s *Script) { s.W, s.Matrix[0][0], s.Draws[1].Indices[0] = math.MaxInt, math.MaxInt, math.MaxInt })
	wantSame(t, "the least numbers", least, least, true)
	wantSame(t, "the least and the greatest numbers", least, most, false)
}

// Two valid scripts are equal just if they have the same encoding.
func TestSameAgainstEncodings(t *testing.T) {
	r := source(5)
	same := 0
	for range 3000 {
		one := anyScript(&r)
		two := copied(one)
		for range r.below(2) {
			alter(&r, &two)
		}
		want := bytes.Equal(modelBytes(one), modelBytes(two))
		if want {
			same++
		}
		wantSame(t, "any scripts", ignored(one, r.below(300)), ignored(two, r.below(300)), want)
	}
	if same < 1000 || same > 2500 {
		t.Errorf("%d of 3000 pairs are the same", same)
	}
}
