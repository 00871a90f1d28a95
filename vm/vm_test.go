package vm

import (
	"math"
	"math/big"
	"slices"
	"testing"

	"azulejo/api"
	"azulejo/isa"
	"azulejo/vec"
)

// source draws from a fixed sequence, so that every run has the same samples.
type source uint32

func (s *source) below(n int) int {
	*s = *s*1664525 + 1013904223
	return int(*s>>8) % n
}

// edges are numbers at which something changes: signs, 1, the limits of a place, of a number, and of int.
var edges = []int{
	0, 1, -1, 2, -2, 255, 256, -256, 65535, 65536, 65537, -65535, -65536, -65537,
	4194303, 4194304, 4194305, -4194303, -4194304, -4194305,
	2147483646, 2147483647, 2147483648, -2147483646, -2147483647, -2147483648, -2147483649,
	1 << 40, -1 << 40, 1 << 62, -1 << 62, math.MaxInt, math.MinInt,
}

// number draws an edge, a small number, or any one of 33 bits.
func (s *source) number() int {
	switch s.below(4) {
	case 0:
		return edges[s.below(len(edges))]
	case 1:
		return s.below(7) - 3
	case 2:
		return s.below(1<<18) - 1<<17
	}
	return s.below(1<<17)<<16 + s.below(1<<16) - 1<<32
}

func (s *source) vector() vec.Vec { return vec.Vec{s.number(), s.number(), s.number(), s.number()} }

func (s *source) regs() (in Regs) {
	for i := range in {
		in[i] = s.vector()
	}
	return in
}

// marked returns registers that all differ, in all components.
func marked() (in Regs) {
	for i := range in {
		for j := range in[i] {
			in[i][j] = 1000*(i+1) + 10*(j+1)
		}
	}
	return in
}

// set returns registers of which one is replaced.
func (r Regs) set(i int, v vec.Vec) Regs {
	r[i] = v
	return r
}

func same(n int) vec.Vec { return vec.Vec{n, n, n, n} }

// sign returns a vector whose first component is n, and whose others have the other sign, so that they must not count.
func sign(n int) vec.Vec {
	if n < 0 {
		return vec.Vec{n, 5, 5, 5}
	}
	return vec.Vec{n, -5, -5, -5}
}

func loop(b uint8, turns int16) isa.Instr { return isa.Instr{Op: isa.Loop, B: b, Imm: turns} }

func skip(reg uint8, n int16) isa.Instr { return isa.Instr{Op: isa.Skip, A: reg, Imm: n} }

func discard(reg uint8) isa.Instr { return isa.Instr{Op: isa.Discard, A: reg} }

// count adds register 11 to register 0.
func count() isa.Instr { return isa.Instr{Op: isa.Add, Dst: 0, A: 0, B: 11} }

// counted returns registers in which count counts how often it is executed.
func counted() Regs { return Regs{11: same(1)} }

func wantRun(t *testing.T, what string, p isa.Program, in Regs, out Result) {
	t.Helper()
	got := Run(p, in)
	for i := range got.Regs {
		if got.Regs[i] != out.Regs[i] {
			t.Errorf("P8.1: %s: register %d is %v, want %v: %v", what, i, got.Regs[i], out.Regs[i], p)
		}
	}
	if got.Gone != out.Gone || got.Steps != out.Steps {
		t.Errorf("P8.1: %s: Gone %v, Steps %d, want %v, %d: %v", what, got.Gone, got.Steps, out.Gone, out.Steps, p)
	}
	if p.Check(true) == api.OK && got.Steps > p.Fuel() {
		t.Errorf("P8.1: %s: Steps %d above Fuel %d: %v", what, got.Steps, p.Fuel(), p)
	}
}

// wantOp runs one instruction, alone and behind others; it has to change its Dst and nothing else.
func wantOp(t *testing.T, what string, in Regs, op isa.Instr, dst vec.Vec) {
	t.Helper()
	out := in.set(int(op.Dst), dst)
	wantRun(t, what, isa.Program{op}, in, Result{Regs: out, Steps: 1})
	wantRun(t, what+", and End", isa.Program{op, {}, {Op: isa.Const, Dst: op.Dst, Imm: 9}}, in, Result{Regs: out, Steps: 2})
	wantRun(t, what+", in a body", isa.Program{loop(1, 1), op}, in, Result{Regs: out, Steps: 2})
}

// wantCounted runs a program that starts with counted registers, of which some more are given.
func wantCounted(t *testing.T, what string, p isa.Program, in Regs, times int, gone bool, steps int) {
	t.Helper()
	in[11] = same(1)
	wantRun(t, what, p, in, Result{in.set(0, in[0].Add(same(times))), gone, steps})
}

func wantPlace(t *testing.T, what string, p isa.Program, m vec.Mat, place, colour, to, shade vec.Vec) {
	t.Helper()
	if v, c := Place(p, m, place, colour); v != to || c != shade {
		t.Errorf("P8.2: %s: Place %v, %v, want %v, %v", what, v, c, to, shade)
	}
}

func wantShade(t *testing.T, what string, p isa.Program, colour vec.Vec, x, y, depth int, shade vec.Vec, gone bool, steps int) {
	t.Helper()
	c, g, n := Shade(p, colour, x, y, depth)
	if c != shade || g != gone || n != steps {
		t.Errorf("P8.2: %s: Shade(%v, %d, %d, %d) %v, %v, %d, want %v, %v, %d", what, colour, x, y, depth, c, g, n, shade, gone, steps)
	}
}

func TestNoInstructions(t *testing.T) {
	for _, p := range []isa.Program{nil, {}, make(isa.Program, 0, 3), isa.Program{{Op: isa.Const}}[:0]} {
		wantRun(t, "no registers set", p, Regs{}, Result{})
		wantRun(t, "registers set", p, marked(), Result{Regs: marked()})
		wantPlace(t, "nothing", p, vec.Unit(), vec.Vec{1, -2, 3, -4}, vec.Vec{5, 6, 7, 8}, vec.Vec{1, -2, 3, -4}, vec.Vec{5, 6, 7, 8})
		wantShade(t, "example", p, vec.Vec{1, 2, 3, 65536}, 4, 5, 6, vec.Vec{1, 2, 3, 65536}, false, 0)
	}
}

func TestEnd(t *testing.T) {
	in := marked()
	write := isa.Instr{Op: isa.Mov, Dst: 0, A: 1}
	wantRun(t, "End alone", isa.Program{{}}, in, Result{Regs: in, Steps: 1})
	wantRun(t, "End has no Dst", isa.Program{{Op: isa.End, Dst: 1, A: 2, B: 3, Imm: 4}}, in, Result{Regs: in, Steps: 1})
	wantRun(t, "End comes first", isa.Program{{}, write}, in, Result{Regs: in, Steps: 1})
	wantRun(t, "End comes last", isa.Program{write, {}}, in, Result{Regs: in.set(0, in[1]), Steps: 2})
	wantRun(t, "the first End counts", isa.Program{write, {}, {}, {}}, in, Result{Regs: in.set(0, in[1]), Steps: 2})
}

func TestMov(t *testing.T) {
	in := marked()
	for dst := range uint8(isa.Regs) {
		for a := range uint8(isa.Regs) {
			wantOp(t, "Mov", in, isa.Instr{Op: isa.Mov, Dst: dst, A: a, B: 7, Imm: -3}, in[a])
		}
	}
}

func TestConst(t *testing.T) {
	in := marked()
	for _, c := range []struct {
		imm int16
		n   int
	}{{0, 0}, {1, 256}, {-1, -256}, {64, 16384}, {-64, -16384}, {255, 65280}, {256, 65536}, {-256, -65536}, {32767, 8388352}, {-32768, -8388608}} {
		for dst := range uint8(isa.Regs) {
			wantOp(t, "Const", in, isa.Instr{Op: isa.Const, Dst: dst, A: 3, B: 4, Imm: c.imm}, same(c.n))
		}
	}
}

func TestArithmetic(t *testing.T) {
	const most = 2147483647
	in := marked().set(1, vec.Vec{65536, -65536, most, -most}).set(2, vec.Vec{32768, 98304, 65536, 65536})
	in[3] = vec.Vec{1, -1, 65537, -65537}
	for _, c := range []struct {
		what string
		op   isa.Op
		a, b uint8
		v    vec.Vec
	}{
		{"Add", isa.Add, 1, 2, vec.Vec{98304, 32768, most, -most + 65536}},
		{"Add at the limits", isa.Add, 1, 1, vec.Vec{131072, -131072, most, -most}},
		{"Sub", isa.Sub, 1, 2, vec.Vec{32768, -163840, most - 65536, -most}},
		{"Sub, turned", isa.Sub, 2, 1, vec.Vec{-32768, 163840, 65536 - most, most}},
		{"Sub of itself", isa.Sub, 1, 1, same(0)},
		{"Mul", isa.Mul, 1, 2, vec.Vec{32768, -98304, most, -most}},
		{"Mul rounds down", isa.Mul, 3, 2, vec.Vec{0, -2, 65537, -65537}},
		{"Mul at the limits", isa.Mul, 1, 1, vec.Vec{65536, 65536, most, most}},
		{"Min", isa.Min, 1, 2, vec.Vec{32768, -65536, 65536, -most}},
		{"Max", isa.Max, 1, 2, vec.Vec{65536, 98304, most, 65536}},
		{"Min, turned", isa.Min, 2, 1, vec.Vec{32768, -65536, 65536, -most}},
		{"Max, turned", isa.Max, 2, 1, vec.Vec{65536, 98304, most, 65536}},
		{"Dot", isa.Dot, 1, 2, same(-65536)},
		{"Dot of products that are rounded down", isa.Dot, 2, 3, same(-2)},
		{"Dot at the upper limit", isa.Dot, 1, 1, same(most)},
	} {
		for _, dst := range []uint8{0, 1, 2, 3, 11} {
			wantOp(t, c.what, in, isa.Instr{Op: c.op, Dst: dst, A: c.a, B: c.b, Imm: 77}, c.v)
		}
	}
}

// TestDotOrder holds that a sum that leaves the limits on the way stays there, whatever follows.
func TestDotOrder(t *testing.T) {
	const most = 2147483647
	in := Regs{1: {most, most, -most, 0}, 2: same(65536), 3: {-most, -most, most, 0}, 4: {most, -most, most, most}}
	wantOp(t, "Dot above", in, isa.Instr{Op: isa.Dot, Dst: 5, A: 1, B: 2}, same(0))
	wantOp(t, "Dot below", in, isa.Instr{Op: isa.Dot, Dst: 5, A: 3, B: 2}, same(0))
	wantOp(t, "Dot at the limit", in, isa.Instr{Op: isa.Dot, Dst: 5, A: 4, B: 2}, same(most))
}

func TestPick(t *testing.T) {
	in := marked()
	for b := range uint8(isa.Regs) {
		for _, dst := range []uint8{0, 5, b} {
			for _, imm := range []int16{0, 1, 2, 3, -1} {
				wantOp(t, "Pick", in, isa.Instr{Op: isa.Pick, Dst: dst, A: 5, B: b, Imm: imm}, same(6010+10*[]int{0, 1, 2, 3, 0, 1, 2, 3, 0, 1, 2, 3}[b]))
			}
		}
	}
}

func TestPut(t *testing.T) {
	in := marked()
	from := map[int16]int{
		0: 0, 1: 1, 2: 2, 3: 3, 4: 0, 5: 1, 6: 2, 7: 3, 8: 0, 255: 3, 256: 0, 32767: 3, 32766: 2,
		-1: 3, -2: 2, -3: 1, -4: 0, -5: 3, -6: 2, -7: 1, -8: 0, -32768: 0, -32767: 1,
	}
	to := []int{0, 1, 2, 3, 0, 1, 2, 3, 0, 1, 2, 3}
	for imm, n := range from {
		for b := range uint8(isa.Regs) {
			dst := in[4]
			dst[to[b]] = 8000 + 10*(n+1)
			wantOp(t, "Put", in, isa.Instr{Op: isa.Put, Dst: 4, A: 7, B: b, Imm: imm}, dst)
			self := in[7]
			self[to[b]] = 8000 + 10*(n+1)
			wantOp(t, "Put into A", in, isa.Instr{Op: isa.Put, Dst: 7, A: 7, B: b, Imm: imm}, self)
		}
	}
}

func TestMat(t *testing.T) {
	for first := range uint8(9) {
		in := Regs{}
		rows := vec.Mat{{65536, 0, 0, 131072}, {0, -65536, 0, 0}, {0, 0, 32768, 1}, {65536, 65536, 65536, 65536}}
		copy(in[first:], rows[:])
		free := (first + 4) % isa.Regs
		if first > 4 {
			free = 0
		}
		in[free] = vec.Vec{65536, 196608, -65536, 65536}
		want := vec.Vec{196608, -196608, -32767, 262144}
		for dst := range uint8(isa.Regs) {
			wantOp(t, "Mat", in, isa.Instr{Op: isa.Mat, Dst: dst, A: first, B: free, Imm: -9}, want)
		}
	}
	wantOp(t, "Mat with a row as B", Regs{{2, 65536}, {65536, 131072}, {}, {0, -65536}},
		isa.Instr{Op: isa.Mat, Dst: 1, A: 0, B: 0}, vec.Vec{65536, 131074, 0, -65536})
	most := same(2147483647)
	wantOp(t, "Mat at the limits", Regs{8: most, 9: {-2147483647}, 10: {0, 65536}, 11: most},
		isa.Instr{Op: isa.Mat, Dst: 8, A: 8, B: 11}, vec.Vec{2147483647, -2147483647, 2147483647, 2147483647})
}

func TestSkip(t *testing.T) {
	write := func(dst uint8) isa.Instr { return isa.Instr{Op: isa.Const, Dst: dst, Imm: 1} }
	p := isa.Program{skip(3, 1), write(0), write(1), write(2)}
	written := func(in Regs, list ...int) Regs {
		for _, i := range list {
			in[i] = same(256)
		}
		return in
	}
	for _, n := range []int{-1, -2, -65536, -2147483647, -2147483648, math.MinInt} {
		in := marked().set(3, sign(n))
		in[3][0] = max(n, -2147483647)
		raw := in
		raw[3][0] = n
		wantRun(t, "Skip to the next but one", p, raw, Result{Regs: written(in, 1, 2), Steps: 3})
		p[0].Imm = 2
		wantRun(t, "Skip over two", p, raw, Result{Regs: written(in, 2), Steps: 2})
		p[0].Imm = 3
		wantRun(t, "Skip to the end", p, raw, Result{Regs: in, Steps: 1})
		p[0].Imm = 1
	}
	for _, n := range []int{0, 1, 2, 65536, 2147483647} {
		in := marked().set(3, sign(n))
		for k := range int16(3) {
			p[0].Imm = k + 1
			wantRun(t, "no Skip", p, in, Result{Regs: written(in, 0, 1, 2), Steps: 4})
		}
	}
	in := marked().set(3, sign(-1))
	wantRun(t, "Skip names no Dst and no B", isa.Program{{Op: isa.Skip, Dst: 5, A: 3, B: 6, Imm: 1}, write(0)}, in, Result{Regs: in, Steps: 1})
	wantRun(t, "Skip to a Skip", isa.Program{skip(3, 1), write(0), skip(3, 1), write(1), write(2)}, in, Result{Regs: written(in, 2), Steps: 3})
	wantRun(t, "Skip over an End", isa.Program{skip(3, 1), {}, write(1)}, in, Result{Regs: written(in, 1), Steps: 2})
	wantRun(t, "Skip to an End", isa.Program{skip(3, 1), write(0), {}, write(1)}, in, Result{Regs: in, Steps: 2})
}

func TestLoop(t *testing.T) {
	for turns := range int16(8) {
		n := int(turns) + 1
		wantCounted(t, "Loop as the last one", isa.Program{loop(1, turns+1), count()}, Regs{}, n, false, 1+n)
		wantCounted(t, "Loop and others", isa.Program{loop(1, turns+1), count(), count(), count()}, Regs{}, n+2, false, 3+n)
		wantCounted(t, "Loop behind others", isa.Program{count(), loop(1, turns+1), count()}, Regs{}, n+1, false, 2+n)
		wantCounted(t, "long body", isa.Program{loop(3, turns+1), count(), count(), count(), {}, count()}, Regs{}, 3*n, false, 2+3*n)
		wantCounted(t, "two Loops", isa.Program{loop(2, turns+1), count(), count(), loop(1, 8-turns), count()}, Regs{}, 2*n+9-n, false, 2+2*n+9-n)
	}
	longest := slices.Repeat(isa.Program{count()}, 24)
	longest[0] = loop(23, 8)
	wantCounted(t, "the most steps", longest, Regs{}, 184, false, 185)
	longest[0] = loop(22, 8)
	wantCounted(t, "the most steps with a rest", longest, Regs{}, 177, false, 178)
	in := marked()
	wantRun(t, "Loop names no registers", isa.Program{{Op: isa.Loop, Dst: 3, A: 4, B: 1, Imm: 2}, {Op: isa.Mov, Dst: 1, A: 2}}, in,
		Result{Regs: in.set(1, in[2]), Steps: 3})
	wantRun(t, "body with its results", isa.Program{loop(2, 5), {Op: isa.Add, Dst: 1, A: 1, B: 2}, {Op: isa.Add, Dst: 2, A: 2, B: 3}}, Regs{3: same(1)},
		Result{Regs: Regs{1: same(0 + 1 + 2 + 3 + 4), 2: same(5), 3: same(1)}, Steps: 11})
}

func TestSkipAndLoop(t *testing.T) {
	back := Regs{5: sign(-1)}
	wantCounted(t, "Skip over a Loop", isa.Program{skip(5, 2), loop(1, 8), count(), count()}, back, 1, false, 2)
	wantCounted(t, "Skip over a Loop to the end", isa.Program{skip(5, 2), loop(1, 8), count()}, back, 0, false, 1)
	wantCounted(t, "Skip to a Loop", isa.Program{skip(5, 1), count(), loop(1, 3), count()}, back, 3, false, 5)
	wantCounted(t, "Skip in a body", isa.Program{loop(4, 3), skip(5, 1), count(), count(), count()}, back, 6, false, 10)
	wantCounted(t, "Skip to the end of a body", isa.Program{loop(3, 4), count(), skip(5, 1), count(), count()}, back, 5, false, 10)
	wantCounted(t, "Skip to the end of a body and of the program", isa.Program{loop(3, 4), count(), skip(5, 1), count()}, back, 4, false, 9)
	wantCounted(t, "Skip to the end of a body, behind which is a Loop", isa.Program{loop(2, 2), skip(5, 1), count(), loop(1, 3), count()}, back, 3, false, 7)
	wantCounted(t, "a whole body is left out", isa.Program{loop(3, 8), skip(5, 2), count(), count(), count()}, back, 1, false, 10)
	ahead := Regs{5: sign(0)}
	wantCounted(t, "no Skip in a body", isa.Program{loop(3, 4), count(), skip(5, 1), count(), count()}, ahead, 9, false, 14)
	wantCounted(t, "no Skip over a Loop", isa.Program{skip(5, 2), loop(1, 8), count(), count()}, ahead, 9, false, 11)
	// Register 5 starts at -3 and grows by 1, so only the first turns skip.
	late := isa.Program{loop(3, 5), skip(5, 1), count(), {Op: isa.Add, Dst: 5, A: 5, B: 11}}
	wantRun(t, "a Skip that ends", late, Regs{5: same(-3), 11: same(1)}, Result{Regs: Regs{0: same(2), 5: same(2), 11: same(1)}, Steps: 13})
}

func TestEndInBody(t *testing.T) {
	wantCounted(t, "End in a body", isa.Program{loop(2, 5), count(), {}, count()}, Regs{}, 1, false, 3)
	wantCounted(t, "End first in a body", isa.Program{loop(2, 5), {}, count(), count()}, Regs{}, 0, false, 2)
	wantCounted(t, "End in a body as the last one", isa.Program{loop(2, 8), count(), {}}, Regs{}, 1, false, 3)
	wantCounted(t, "End ends later Loops, too", isa.Program{loop(1, 2), {}, loop(1, 2), count()}, Regs{}, 0, false, 2)
	// Register 5 is negative for three turns, in which the End is skipped.
	p := isa.Program{loop(4, 8), count(), {Op: isa.Add, Dst: 5, A: 5, B: 11}, skip(5, 1), {}, count()}
	wantRun(t, "End in the third turn", p, Regs{5: same(-3), 11: same(1)}, Result{Regs: Regs{0: same(3), 5: same(0), 11: same(1)}, Steps: 11})
}

func TestDiscard(t *testing.T) {
	for _, n := range []int{-1, -2, -65536, -2147483647} {
		in := Regs{5: sign(n)}
		wantCounted(t, "Discard alone", isa.Program{discard(5)}, in, 0, true, 1)
		wantCounted(t, "Discard and others", isa.Program{count(), discard(5), count(), {}}, in, 1, true, 2)
		wantCounted(t, "two Discards", isa.Program{discard(5), discard(5), count()}, in, 0, true, 1)
		wantCounted(t, "the first Discard does nothing", isa.Program{discard(4), discard(5), count()}, in, 0, true, 2)
		wantCounted(t, "Discard in a body", isa.Program{loop(2, 6), count(), discard(5), count()}, in, 1, true, 3)
		wantCounted(t, "Discard first in a body", isa.Program{count(), loop(2, 6), discard(5), count()}, in, 1, true, 3)
		wantCounted(t, "Discard ends later Loops, too", isa.Program{loop(1, 2), discard(5), loop(1, 2), count()}, in, 0, true, 2)
		wantCounted(t, "Discard behind an End", isa.Program{count(), {}, discard(5)}, in, 1, false, 2)
		wantCounted(t, "Discard that is skipped", isa.Program{skip(5, 1), discard(5), count()}, in, 1, false, 2)
		wantCounted(t, "Discard names no Dst", isa.Program{{Op: isa.Discard, Dst: 1, A: 5, B: 2, Imm: 9}}, in, 0, true, 1)
	}
	for _, n := range []int{0, 1, 65536, 2147483647} {
		in := Regs{5: sign(n)}
		wantCounted(t, "no Discard", isa.Program{discard(5)}, in, 0, false, 1)
		wantCounted(t, "no Discard, and others", isa.Program{count(), discard(5), count(), {}}, in, 2, false, 4)
		wantCounted(t, "no Discard in a body", isa.Program{loop(2, 6), count(), discard(5), count()}, in, 7, false, 14)
	}
	// Register 5 falls from 2, so that the fourth turn discards.
	p := isa.Program{loop(3, 8), count(), discard(5), {Op: isa.Sub, Dst: 5, A: 5, B: 11}, count()}
	wantRun(t, "Discard in the fourth turn", p, Regs{5: same(2), 11: same(1)}, Result{Regs{0: same(4), 5: same(-1), 11: same(1)}, true, 12})
}

func TestClampedAtStart(t *testing.T) {
	const most = 2147483647
	in := Regs{
		0:  {most, most + 1, math.MaxInt, 1 << 40},
		3:  {-most, -most - 1, math.MinInt, -1 << 40},
		11: {1 << 62, -1 << 62, 5, -5},
	}
	out := Regs{0: same(most), 3: same(-most), 11: {most, -most, 5, -5}}
	wantRun(t, "nil", nil, in, Result{Regs: out})
	wantRun(t, "End", isa.Program{{}}, in, Result{Regs: out, Steps: 1})
	wantRun(t, "not valid", isa.Program{{Op: isa.Ops}}, in, Result{Regs: out})
	wantRun(t, "Mov", isa.Program{{Op: isa.Mov, Dst: 1, A: 0}}, in, Result{Regs: out.set(1, same(most)), Steps: 1})
	wantRun(t, "Pick", isa.Program{{Op: isa.Pick, Dst: 1, A: 3, B: 2}}, in, Result{Regs: out.set(1, same(-most)), Steps: 1})
	wantRun(t, "Put", isa.Program{{Op: isa.Put, Dst: 1, A: 0, B: 1, Imm: 2}}, in, Result{Regs: out.set(1, vec.Vec{0, most}), Steps: 1})
	wantRun(t, "Add", isa.Program{{Op: isa.Add, Dst: 1, A: 0, B: 3}}, in, Result{Regs: out, Steps: 1})
	for i := range edges {
		for r := range isa.Regs {
			n := min(max(edges[i], -most), most)
			wantRun(t, "edge", nil, Regs{}.set(r, same(edges[i])), Result{Regs: Regs{}.set(r, same(n))})
		}
	}
}

func TestNotValid(t *testing.T) {
	first := isa.Instr{Op: isa.Const, Dst: 0, Imm: 9}
	long := slices.Repeat(isa.Program{first}, 25)
	for _, c := range []struct {
		what string
		p    isa.Program
	}{
		{"too many", long},
		{"no such op", isa.Program{first, {Op: isa.Ops}}},
		{"no such op at all", isa.Program{first, {Op: 255}}},
		{"no such op behind an End", isa.Program{first, {}, {Op: isa.Ops}}},
		{"no such Dst", isa.Program{first, {Op: isa.Mov, Dst: 12}}},
		{"no such A", isa.Program{first, {Op: isa.Mov, A: 12}}},
		{"no such B", isa.Program{first, {Op: isa.Add, B: 12}}},
		{"B that is not used", isa.Program{first, {Op: isa.Mov, B: 255}}},
		{"no such register of an End", isa.Program{first, {Dst: 12}}},
		{"matrix beyond the registers", isa.Program{first, {Op: isa.Mat, A: 9}}},
		{"Loop in a body", isa.Program{first, loop(2, 2), loop(1, 2), count()}},
		{"no body", isa.Program{first, loop(0, 2), count()}},
		{"body beyond the end", isa.Program{first, loop(2, 2), count()}},
		{"no turns", isa.Program{first, loop(1, 0), count()}},
		{"turns below 0", isa.Program{first, loop(1, -1), count()}},
		{"too many turns", isa.Program{first, loop(1, 9), count()}},
		{"Skip to the next", isa.Program{first, skip(0, 0), count()}},
		{"Skip back", isa.Program{first, skip(0, -2), count()}},
		{"Skip beyond the end", isa.Program{first, skip(0, 2), count()}},
		{"Skip out of a body", isa.Program{first, loop(2, 2), skip(0, 2), count(), count()}},
		{"Skip into a body", isa.Program{first, skip(0, 1), loop(2, 2), count(), count()}},
		{"Discard and no such op", isa.Program{discard(5), {Op: isa.Ops}}},
	} {
		in := marked().set(5, sign(-1)).set(6, same(1<<40))
		wantRun(t, c.what, c.p, in, Result{Regs: in.set(6, same(2147483647))})
		wantPlace(t, c.what, c.p, vec.Unit(), vec.Vec{1 << 40, 2, -3, -1 << 40}, vec.Vec{-1, 7, 65537, 0}, vec.Vec{4194304, 2, -3, -4194304}, vec.Vec{0, 7, 65536, 0})
		wantShade(t, c.what, c.p, vec.Vec{-1, 7, 65537, 0}, 1, 2, 3, vec.Vec{0, 7, 65536, 0}, false, 0)
	}
	wantRun(t, "24 instructions are not too many", long[:24], Regs{}, Result{Regs: Regs{same(2304)}, Steps: 24})
}

func TestColour(t *testing.T) {
	for _, n := range edges {
		want := min(max(n, 0), 65536)
		for i := range 4 {
			v, w := vec.Vec{7, 8, 9, 10}, vec.Vec{7, 8, 9, 10}
			v[i], w[i] = n, want
			if c := Colour(v); c != w {
				t.Errorf("P8.2: Colour(%v) %v, want %v", v, c, w)
			}
		}
	}
	s := source(1)
	for range 2000 {
		v := s.vector()
		for i, n := range Colour(v) {
			if n != min(max(v[i], 0), 65536) {
				t.Fatalf("P8.2: Colour(%v) has %d", v, n)
			}
		}
	}
}

// TestPlaceRegisters reads each register with which a vertex program starts.
func TestPlaceRegisters(t *testing.T) {
	m := vec.Mat{{1, 2, 3, 4}, {5, 6, 7, 8}, {9, 10, 11, 12}, {13, 14, 15, 16}}
	place, colour := vec.Vec{21, -22, 23, -24}, vec.Vec{31, 32, 33, 34}
	start := Regs{0: place, 1: colour, 4: m[0], 5: m[1], 6: m[2], 7: m[3]}
	for a := range uint8(isa.Regs) {
		wantPlace(t, "to the place", isa.Program{{Op: isa.Mov, Dst: 0, A: a}}, m, place, colour, start[a], colour)
		wantPlace(t, "to the colour", isa.Program{{Op: isa.Mov, Dst: 1, A: a}}, m, place, colour, place, Colour(start[a]))
		wantPlace(t, "elsewhere", isa.Program{{Op: isa.Const, Dst: max(a, 2), Imm: 1}}, m, place, colour, place, colour)
	}
	move := vec.Unit()
	move[0][3], move[2][2] = 32768, -65536
	wantPlace(t, "Mat", isa.Program{{Op: isa.Mat, Dst: 0, A: 4, B: 0}}, move, vec.Vec{1, 2, 3, 65536}, colour, vec.Vec{32769, 2, -3, 65536}, colour)
}

func TestPlaceLimits(t *testing.T) {
	for _, n := range edges {
		to, shade := min(max(n, -4194304), 4194304), min(max(n, 0), 65536)
		for i := range 4 {
			v, c, w, s := vec.Vec{1, 2, 3, 4}, vec.Vec{5, 6, 7, 8}, vec.Vec{1, 2, 3, 4}, vec.Vec{5, 6, 7, 8}
			v[i], c[i], w[i], s[i] = n, n, to, shade
			wantPlace(t, "limits", nil, vec.Mat{}, v, c, w, s)
		}
	}
	// Inside a program, a place and a colour have no other limits than a number has.
	double := isa.Program{{Op: isa.Add, Dst: 0, A: 0, B: 0}, {Op: isa.Sub, Dst: 1, A: 1, B: 4}}
	wantPlace(t, "limited at the end", double, vec.Mat{same(131072)}, same(4194304), same(131073), same(4194304), same(1))
	wantPlace(t, "limited at the end, below", double, vec.Mat{same(-65536)}, same(-4194305), same(-65535), same(-4194304), same(1))
	back := isa.Program{{Op: isa.Sub, Dst: 0, A: 0, B: 4}}
	wantPlace(t, "clamped at the start", back, vec.Mat{same(2147483000)}, same(math.MaxInt), same(0), same(647), same(0))
	wantPlace(t, "the matrix is clamped, too", back, vec.Mat{same(1 << 40)}, same(2147483647), same(0), same(0), same(0))
	gone := isa.Program{{Op: isa.Const, Dst: 0, Imm: 1}, discard(2), discard(1), {Op: isa.Const, Dst: 0, Imm: 2}}
	wantPlace(t, "a Discard ends it", gone, vec.Mat{}, same(5), same(-1), same(256), same(0))
}

// TestShadeRegisters reads each register with which a fragment program starts.
func TestShadeRegisters(t *testing.T) {
	start := Regs{0: {11, 12, 13, 14}, 1: {0, 65536, 300, 65536}}
	for a := range uint8(isa.Regs) {
		wantShade(t, "register", isa.Program{{Op: isa.Mov, Dst: 0, A: a}}, start[0], 0, 1, 300, start[a], false, 1)
	}
	// What a component of the second register is beyond a colour's limits shows in its difference from a constant.
	read := func(component uint8, imm int16) isa.Program {
		return isa.Program{{Op: isa.Pick, Dst: 0, A: 1, B: component}, {Op: isa.Const, Dst: 2, Imm: imm}, {Op: isa.Sub, Dst: 0, A: 0, B: 2}}
	}
	for _, c := range []struct {
		n    int
		imm  int16
		want int
	}{{0, 0, 0}, {1, 0, 65536}, {2, 256, 65536}, {63, 63 * 256, 0}, {64, 64*256 - 1, 256}, {127, 127*256 - 2, 512}, {-1, -256, 0}, {-1, -257, 256}, {-128, -32768, 0}, {-127, -32768, 65536}} {
		wantShade(t, "x", read(0, c.imm), same(0), c.n, 33, 44, same(c.want), false, 3)
		wantShade(t, "y", read(1, c.imm), same(0), 33, c.n, 44, same(c.want), false, 3)
	}
	for _, depth := range edges {
		limited := min(max(depth, 0), 65535)
		wantShade(t, "depth", read(2, 0), same(0), 3, 4, depth, same(limited), false, 3)
	}
	wantShade(t, "the fourth one", read(3, 255), same(0), 3, 4, 5, same(256), false, 3)
}

func TestShadeAnywhere(t *testing.T) {
	// 1/256 times 1/256 is the least number above 0; times that, a whole number has its own value.
	whole := func(component uint8) isa.Program {
		return isa.Program{
			{Op: isa.Pick, Dst: 0, A: 1, B: component},
			{Op: isa.Const, Dst: 2, Imm: 1},
			{Op: isa.Mul, Dst: 2, A: 2, B: 2},
			{Op: isa.Mul, Dst: 0, A: 0, B: 2},
		}
	}
	sides := isa.Program{discard(1), {Op: isa.Const, Dst: 0, Imm: 3}}
	for _, n := range edges {
		want := same(min(max(n, 0), 32767))
		wantShade(t, "any x", whole(0), same(0), n, 5, 6, want, false, 4)
		wantShade(t, "any y", whole(1), same(0), 5, n, 6, want, false, 4)
		if n < 0 {
			wantShade(t, "x below 0", sides, same(9), n, 5, 6, same(9), true, 1)
		} else {
			wantShade(t, "x not below 0", sides, same(9), n, 5, 6, same(768), false, 2)
		}
		wantShade(t, "y has another component", sides, same(9), 5, n, 6, same(768), false, 2)
	}
}

func TestShadeColours(t *testing.T) {
	for _, n := range edges {
		want := same(min(max(n, 0), 65536))
		wantShade(t, "limited", nil, same(n), 1, 2, 3, want, false, 0)
		wantShade(t, "limited at the start", isa.Program{{Op: isa.Const, Dst: 2, Imm: -256}, {Op: isa.Add, Dst: 0, A: 0, B: 2}, {Op: isa.Sub, Dst: 0, A: 0, B: 2}}, same(n), 1, 2, 3, want, false, 3)
	}
	double := isa.Program{{Op: isa.Add, Dst: 0, A: 0, B: 0}}
	wantShade(t, "limited at the end", double, vec.Vec{32767, 32768, 32769, 65536}, 1, 2, 3, vec.Vec{65534, 65536, 65536, 65536}, false, 1)
	below := isa.Program{{Op: isa.Const, Dst: 2, Imm: 1}, {Op: isa.Sub, Dst: 0, A: 0, B: 2}}
	wantShade(t, "limited at the end, below", below, vec.Vec{0, 255, 256, 257}, 1, 2, 3, vec.Vec{0, 0, 0, 1}, false, 2)
}

func TestShadeDiscard(t *testing.T) {
	p := isa.Program{{Op: isa.Const, Dst: 2, Imm: 128}, {Op: isa.Sub, Dst: 3, A: 0, B: 2}, discard(3), {Op: isa.Mov, Dst: 0, A: 2}}
	wantShade(t, "discarded", p, vec.Vec{32767, 40000, 70000, -5}, 1, 2, 3, vec.Vec{32767, 40000, 65536, 0}, true, 3)
	wantShade(t, "not discarded", p, vec.Vec{32768, 0, 0, 0}, 1, 2, 3, same(32768), false, 4)
	turns := isa.Program{loop(2, 4), {Op: isa.Add, Dst: 0, A: 0, B: 0}, discard(2), {Op: isa.Const, Dst: 0, Imm: 1}}
	wantShade(t, "no Discard in a body", turns, same(1), 1, 2, 3, same(256), false, 10)
	wantShade(t, "a colour is never negative at the start", isa.Program{discard(0)}, same(-5), 1, 2, 3, same(0), false, 1)
}

// TestArguments holds that what is handed over stays as it is, also behind the end of a program.
func TestArguments(t *testing.T) {
	whole := isa.Program{{Op: isa.Const, Dst: 0, Imm: 3}, loop(1, 2), {Op: isa.Add, Dst: 1, A: 1, B: 0}, discard(9), {Op: isa.Mat, Dst: 2, A: 8, B: 1}, {Op: 77, Dst: 88}}
	before := slices.Clone(whole)
	p := whole[:5]
	in, m, v, c := marked(), vec.Unit(), vec.Vec{1 << 40, 2, 3, 4}, vec.Vec{-5, 6, 7, 1 << 40}
	for range 2 {
		r := Run(p, in)
		r.Regs[5] = same(99)
		Place(p, m, v, c)
		Shade(p, c, 1, 2, 3)
		Colour(c)
		Run(whole, in)
	}
	if !slices.Equal(whole, before) {
		t.Errorf("R6: program %v, was %v", whole, before)
	}
	if in != marked() || m != vec.Unit() || v != (vec.Vec{1 << 40, 2, 3, 4}) || c != (vec.Vec{-5, 6, 7, 1 << 40}) {
		t.Errorf("R6: arguments are changed: %v %v %v %v", in, m, v, c)
	}
	if r := Run(p, in); r.Regs[5] != in[5] || r != Run(slices.Clone(p), in) {
		t.Errorf("R8: %v", r)
	}
}

// flat is an instruction of a program without Loops; to is where a Skip leads.
type flat struct {
	isa.Instr
	to int
}

// unrolled writes out each turn of each Loop. The Loops themselves stay, as steps that do nothing.
func unrolled(p isa.Program) (list []flat) {
	at := make([]int, len(p)+1)
	for i := 0; i < len(p); i++ {
		at[i] = len(list)
		list = append(list, flat{p[i], i + 1 + int(p[i].Imm)})
		if p[i].Op != isa.Loop {
			continue
		}
		size := int(p[i].B)
		for range p[i].Imm {
			start := len(list)
			for j, in := range p[i+1 : i+1+size] {
				// Negative: it is an index of this list already.
				list = append(list, flat{in, -(start + j + 1 + int(in.Imm))})
			}
		}
		i += size
	}
	at[len(p)] = len(list)
	for i := range list {
		switch f := &list[i]; {
		case f.Op != isa.Skip:
		case f.to < 0:
			f.to = -f.to
		default:
			f.to = at[f.to]
		}
	}
	return list
}

func modelClamp(n *big.Int) *big.Int {
	most := big.NewInt(2147483647)
	least := big.NewInt(-2147483647)
	if n.Cmp(most) > 0 {
		return most
	}
	if n.Cmp(least) < 0 {
		return least
	}
	return n
}

// modelEach computes an op on two numbers.
func modelEach(op isa.Op, x, y int) int {
	a, b := big.NewInt(int64(x)), big.NewInt(int64(y))
	n := new(big.Int)
	switch op {
	case isa.Add:
		n.Add(a, b)
	case isa.Sub:
		n.Sub(a, b)
	case isa.Mul:
		// Div rounds down where the divisor is positive.
		n.Div(n.Mul(a, b), big.NewInt(65536))
	case isa.Min:
		n = a
		if b.Cmp(a) < 0 {
			n = b
		}
	case isa.Max:
		n = a
		if b.Cmp(a) > 0 {
			n = b
		}
	}
	return int(modelClamp(n).Int64())
}

func modelDot(a, b vec.Vec) (sum int) {
	for i := range a {
		sum = modelEach(isa.Add, sum, modelEach(isa.Mul, a[i], b[i]))
	}
	return sum
}

func modelMod(n int) int { return (n%4 + 4) % 4 }

// modelWrite changes the registers as one instruction says that computes.
func modelWrite(r *Regs, in isa.Instr) {
	old := *r
	for i := range 4 {
		switch in.Op {
		case isa.Mov:
			r[in.Dst][i] = old[in.A][i]
		case isa.Const:
			r[in.Dst][i] = int(in.Imm) << 8
		case isa.Add, isa.Sub, isa.Mul, isa.Min, isa.Max:
			r[in.Dst][i] = modelEach(in.Op, old[in.A][i], old[in.B][i])
		case isa.Dot:
			r[in.Dst][i] = modelDot(old[in.A], old[in.B])
		case isa.Pick:
			r[in.Dst][i] = old[in.A][modelMod(int(in.B))]
		case isa.Put:
			if i == modelMod(int(in.B)) {
				r[in.Dst][i] = old[in.A][modelMod(int(in.Imm))]
			}
		case isa.Mat:
			r[in.Dst][i] = modelDot(old[int(in.A)+i], old[in.B])
		}
	}
}

// modelRun executes the unrolled program.
func modelRun(p isa.Program, in Regs) (out Result) {
	for i := range in {
		for j := range in[i] {
			out.Regs[i][j] = int(modelClamp(big.NewInt(int64(in[i][j]))).Int64())
		}
	}
	if p.Check(true) != api.OK {
		return out
	}
	list := unrolled(p)
	for at := 0; at < len(list); {
		f := list[at]
		negative := out.Regs[f.A][0] < 0
		out.Steps++
		at++
		switch {
		case f.Op == isa.End:
			return out
		case f.Op == isa.Discard && negative:
			out.Gone = true
			return out
		case f.Op == isa.Skip && negative:
			at = f.to
		}
		modelWrite(&out.Regs, f.Instr)
	}
	return out
}

// instr draws an instruction that often, but not always, may stand in a program.
func (s *source) instr() isa.Instr {
	op := isa.Op(s.below(15))
	if (op == isa.End || op == isa.Discard) && s.below(3) > 0 {
		op = isa.Op(1 + s.below(10))
	}
	in := isa.Instr{Op: op, Dst: uint8(s.below(isa.Regs)), A: uint8(s.below(isa.Regs)), B: uint8(s.below(isa.Regs)), Imm: int16(s.below(65536) - 32768)}
	switch op {
	case isa.Mat:
		in.A = uint8(s.below(9))
	case isa.Loop:
		in.B, in.Imm = uint8(1+s.below(6)), int16(1+s.below(8))
	case isa.Skip:
		in.Imm = int16(1 + s.below(4))
	}
	if s.below(150) == 0 {
		in.B, in.Imm = uint8(s.below(14)), int16(s.below(12)-2)
	}
	return in
}

func (s *source) program() isa.Program {
	p := make(isa.Program, s.below(api.MaxProgram+2))
	for i := range p {
		p[i] = s.instr()
	}
	return p
}

func TestDrawnPrograms(t *testing.T) {
	s := source(8)
	valid, refused, gone, long, full := 0, 0, 0, 0, 0
	var executed [isa.Ops]int
	for range 40000 {
		p, in := s.program(), s.regs()
		want := modelRun(p, in)
		if got := Run(p, in); got != want {
			t.Fatalf("P8.1: Run(%v, %v) %v, want %v", p, in, got, want)
		}
		if p.Check(true) != api.OK {
			refused++
			continue
		}
		valid++
		for _, i := range p {
			executed[i.Op]++
		}
		if want.Gone {
			gone++
		}
		if want.Steps > len(p) {
			long++
		}
		if want.Steps == p.Fuel() {
			full++
		}
		if want.Steps > p.Fuel() {
			t.Fatalf("P8.1: Steps %d above Fuel %d: %v", want.Steps, p.Fuel(), p)
		}
	}
	if valid < 5000 || refused < 5000 || gone < 500 || long < 500 || full < 500 || slices.Min(executed[:]) < 500 {
		t.Errorf("too few samples: %d valid, %d refused, %d gone, %d long, %d with all their fuel, ops %v", valid, refused, gone, long, full, executed)
	}
}

// TestDrawnPlacesAndShades holds Place and Shade against the registers that the chapter gives them.
func TestDrawnPlacesAndShades(t *testing.T) {
	s := source(88)
	ran, gone := 0, 0
	for range 20000 {
		p, m, place, colour := s.program(), vec.Mat{s.vector(), s.vector(), s.vector(), s.vector()}, s.vector(), s.vector()
		out := modelRun(p, Regs{place, colour, {}, {}, m[0], m[1], m[2], m[3]})
		var to, shade vec.Vec
		for i := range 4 {
			to[i] = min(max(out.Regs[0][i], -1<<22), 1<<22)
			shade[i] = min(max(out.Regs[1][i], 0), 1<<16)
		}
		wantPlace(t, "drawn", p, m, place, colour, to, shade)
		x, y, depth := s.number(), s.number(), s.number()
		start := Regs{}
		for i, n := range colour {
			start[0][i] = min(max(n, 0), 65536)
		}
		start[1] = vec.Vec{min(max(x, -65536), 65536) * 65536, min(max(y, -65536), 65536) * 65536, min(max(depth, 0), 65535), 65536}
		out = modelRun(p, start)
		for i := range 4 {
			shade[i] = min(max(out.Regs[0][i], 0), 1<<16)
		}
		wantShade(t, "drawn", p, colour, x, y, depth, shade, out.Gone, out.Steps)
		if t.Failed() {
			t.Fatal(p)
		}
		if out.Steps > 0 {
			ran++
		}
		if out.Gone {
			gone++
		}
	}
	if ran < 3000 || gone < 100 {
		t.Errorf("too few samples: %d executed, %d gone", ran, gone)
	}
}

// TestShortPrograms runs all programs of three instructions that steer, before one that writes.
func TestShortPrograms(t *testing.T) {
	var list []isa.Instr
	for _, reg := range []uint8{4, 5} {
		list = append(list, skip(reg, 1), skip(reg, 2), skip(reg, 3), discard(reg))
	}
	list = append(list, isa.Instr{}, count(), isa.Instr{Op: isa.Sub, Dst: 5, A: 5, B: 11})
	for b := range uint8(4) {
		list = append(list, loop(b+1, 1), loop(b+1, 2), loop(b+1, 8))
	}
	in := counted().set(4, sign(-1)).set(5, sign(1))
	ran := 0
	for _, first := range list {
		for _, second := range list {
			for _, third := range list {
				p := isa.Program{first, second, third, count(), count()}
				want := modelRun(p, in)
				if got := Run(p, in); got != want {
					t.Fatalf("P8.1: Run(%v) %v, want %v", p, got, want)
				}
				if want.Steps > 0 {
					ran++
				}
			}
		}
	}
	if ran < 2000 {
		t.Errorf("too few programs are executed: %d", ran)
	}
}
