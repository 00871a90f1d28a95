package isa

import (
	"bytes"
	"math"
	"slices"
	"testing"

	"azulejo/api"
	"azulejo/wire"
)

// source draws from a fixed sequence, so that every run has the same samples.
type source uint32

func (s *source) below(n int) int {
	*s = *s*1664525 + 1013904223
	return int(*s>>8) % n
}

// movs returns n instructions that are always allowed.
func movs(n int) Program {
	p := make(Program, n)
	for i := range p {
		p[i].Op = Mov
	}
	return p
}

// with returns n movs, of which some are replaced.
func with(n int, other map[int]Instr) Program {
	p := movs(n)
	for i, in := range other {
		p[i] = in
	}
	return p
}

func loop(b uint8, turns int16) Instr { return Instr{Op: Loop, B: b, Imm: turns} }

func skip(n int16) Instr { return Instr{Op: Skip, Imm: n} }

func encoded(p Program) []byte {
	w := &wire.Writer{}
	p.Put(w)
	return w.Bytes()
}

func wantCheck(t *testing.T, what string, p Program, discards bool, err api.Errno) {
	t.Helper()
	if e := p.Check(discards); e != err {
		t.Errorf("P7.1: %s: Check(%v) error %d, want %d: %v", what, discards, e, err, p)
	}
}

func wantBody(t *testing.T, what string, p Program, i, from, to int, ok bool) {
	t.Helper()
	if f, e, is := p.Body(i); f != from || e != to || is != ok {
		t.Errorf("P7.1: %s: Body(%d) %d, %d, %v, want %d, %d, %v", what, i, f, e, is, from, to, ok)
	}
}

func wantFuel(t *testing.T, what string, p Program, fuel int) {
	t.Helper()
	if n := p.Fuel(); n != fuel {
		t.Errorf("P7.1: %s: Fuel %d, want %d", what, n, fuel)
	}
}

func wantBytes(t *testing.T, what string, p Program, b []byte) {
	t.Helper()
	if got := encoded(p); !bytes.Equal(got, b) {
		t.Errorf("P7.2: %s: Put %x, want %x", what, got, b)
	}
}

// wantTaken takes a program that is followed by other bytes, which have to be left.
func wantTaken(t *testing.T, what string, b []byte, discards bool, p Program) {
	t.Helper()
	r := wire.Read(append(slices.Clone(b), 7, 8, 9))
	got := Take(r, discards)
	if !slices.Equal(got, p) || r.Err() != api.OK {
		t.Errorf("P7.2: %s: Take %v, error %d, want %v", what, got, r.Err(), p)
	}
	if r.At() != len(b) || r.Left() != 3 {
		t.Errorf("P7.2: %s: Take reads %d bytes and leaves %d, want %d and 3", what, r.At(), r.Left(), len(b))
	}
}

func wantRefused(t *testing.T, what string, b []byte, discards bool, err api.Errno) {
	t.Helper()
	r := wire.Read(b)
	if got := Take(r, discards); len(got) > 0 || r.Err() != err || r.Left() != 0 {
		t.Errorf("P7.2: %s: Take %v, error %d, %d left, want nothing and error %d", what, got, r.Err(), r.Left(), err)
	}
}

func TestNumbers(t *testing.T) {
	list := []Op{End, Mov, Const, Add, Sub, Mul, Min, Max, Dot, Pick, Put, Skip, Loop, Discard, Mat, Ops}
	for n, op := range list {
		if int(op) != n {
			t.Errorf("P7.1: op %d is numbered %d", n, op)
		}
	}
	if len(list) != 16 || Regs != 12 {
		t.Errorf("P7.1: %d ops with Ops, %d registers", len(list), Regs)
	}
}

func TestCheckManyInstructions(t *testing.T) {
	for n := range api.MaxProgram + 1 {
		wantCheck(t, "few enough", movs(n), false, api.OK)
		wantCheck(t, "few enough", movs(n), true, api.OK)
		wantCheck(t, "zero values", make(Program, n), false, api.OK)
	}
	for _, n := range []int{25, 26, 100, 255, 256, 1000} {
		wantCheck(t, "too many", movs(n), true, api.ErrMany)
		wantCheck(t, "too many, and no such op", with(n, map[int]Instr{0: {Op: Ops}}), true, api.ErrMany)
		wantCheck(t, "too many, and no such register", with(n, map[int]Instr{0: {Dst: 12}}), true, api.ErrMany)
		wantCheck(t, "too many, and a bad Loop", with(n, map[int]Instr{0: loop(0, 0)}), true, api.ErrMany)
	}
	wantCheck(t, "nil", nil, false, api.OK)
	wantCheck(t, "what is in the spare capacity does not count", movs(30)[:24], false, api.OK)
}

func TestCheckOps(t *testing.T) {
	whole := map[Op]Instr{Skip: skip(1), Loop: loop(1, 1)}
	for n := range 256 {
		op := Op(n)
		in, ok := whole[op]
		if !ok {
			in = Instr{Op: op}
		}
		err, without := api.OK, api.OK
		if n > 14 {
			err, without = api.ErrKind, api.ErrKind
		}
		if n == 13 {
			without = api.ErrKind
		}
		for i := range 4 {
			p := with(6, map[int]Instr{i: in})
			wantCheck(t, "every op", p, true, err)
			wantCheck(t, "every op", p, false, without)
		}
	}
}

func TestCheckDiscardAnywhere(t *testing.T) {
	for _, p := range []Program{
		{{Op: Discard}},
		with(24, map[int]Instr{23: {Op: Discard, A: 11, Dst: 11, B: 11, Imm: -1}}),
		{loop(2, 8), {Op: Mov}, {Op: Discard}, {Op: End}},
		{{Op: End}, {Op: Discard}},
	} {
		wantCheck(t, "a Discard that may be", p, true, api.OK)
		wantCheck(t, "a Discard that may not be", p, false, api.ErrKind)
		if !p.Discards() {
			t.Errorf("P7.1: Discards is false of %v", p)
		}
	}
}

func TestDiscards(t *testing.T) {
	for n := range 256 {
		for i := range 5 {
			p := with(5, map[int]Instr{i: {Op: Op(n), Dst: 200, A: 13, B: 13, Imm: 13}})
			if p.Discards() != (n == 13) {
				t.Errorf("P7.1: Discards is %v of op %d", p.Discards(), n)
			}
		}
	}
	if (Program)(nil).Discards() || (Program{}).Discards() || movs(100).Discards() {
		t.Error("P7.1: Discards without a Discard")
	}
	if !with(1000, map[int]Instr{999: {Op: Discard}}).Discards() {
		t.Error("P7.1: no Discards of a long program")
	}
	if with(3, map[int]Instr{2: {Op: Discard}})[:2].Discards() {
		t.Error("P7.1: Discards by what is in the spare capacity")
	}
}

func TestCheckRegisters(t *testing.T) {
	for op := range Ops {
		for n := range 256 {
			reg := uint8(n)
			plain := Instr{Op: op, Imm: 1, B: 1}
			dst, a, b := plain, plain, plain
			dst.Dst, a.A, b.B = reg, reg, reg
			err := api.OK
			if n > 11 {
				err = api.ErrRange
			}
			wantCheck(t, "every Dst", Program{dst, {}, {}}, true, err)
			if op == Mat && n > 8 {
				wantCheck(t, "every A of a Mat", Program{a, {}, {}}, true, api.ErrRange)
			} else {
				wantCheck(t, "every A", Program{a, {}, {}}, true, err)
			}
			if op != Loop {
				wantCheck(t, "every B", Program{b, {}, {}}, true, err)
			}
		}
	}
	wantCheck(t, "the last registers", Program{{Op: Mat, Dst: 11, A: 8, B: 11}}, false, api.OK)
	wantCheck(t, "a matrix beyond the registers", Program{{Op: Mat, Dst: 11, A: 9, B: 11}}, false, api.ErrRange)
	wantCheck(t, "A of 9 in another op", Program{{Op: Dot, Dst: 11, A: 9, B: 11}}, false, api.OK)
}

func TestCheckImmOfOthers(t *testing.T) {
	for op := range Ops {
		if op == Skip || op == Loop {
			continue
		}
		for _, imm := range []int16{math.MinInt16, -256, -1, 0, 1, 8, 9, 24, 255, math.MaxInt16} {
			wantCheck(t, "any Imm", Program{{Op: op, Imm: imm}}, true, api.OK)
		}
	}
}

func TestCheckLoops(t *testing.T) {
	for size := range 24 {
		for b := range 256 {
			for at := range min(size+1, 3) {
				p := with(size+1, map[int]Instr{at: loop(uint8(b), 1)})
				err := api.OK
				if b == 0 || b > size-at {
					err = api.ErrProgram
				}
				wantCheck(t, "every B of a Loop", p, false, err)
			}
		}
	}
	for imm := math.MinInt16; imm <= math.MaxInt16; imm++ {
		err := api.OK
		if imm < 1 || imm > 8 {
			err = api.ErrProgram
		}
		wantCheck(t, "every Imm of a Loop", Program{loop(1, int16(imm)), {}}, false, err)
	}
	wantCheck(t, "a Loop at the end", Program{{}, loop(1, 1)}, false, api.ErrProgram)
	wantCheck(t, "a Loop alone", Program{loop(0, 1)}, false, api.ErrProgram)
	wantCheck(t, "B above 11", with(24, map[int]Instr{0: loop(23, 8)}), false, api.OK)
	wantCheck(t, "B of one too many", with(24, map[int]Instr{0: loop(24, 8)}), false, api.ErrProgram)
	wantCheck(t, "what is in the spare capacity is no body", with(5, map[int]Instr{0: loop(3, 1)})[:3], false, api.ErrProgram)
}

func TestCheckLoopsInLoops(t *testing.T) {
	for at := 1; at < 22; at++ {
		for b := 1; b < 23; b++ {
			p := with(24, map[int]Instr{0: loop(uint8(b), 2), at: loop(1, 2)})
			err := api.OK
			if at <= b {
				err = api.ErrProgram
			}
			wantCheck(t, "two Loops", p, false, err)
		}
	}
	wantCheck(t, "one after another", Program{loop(1, 8), {}, loop(1, 8), {}, loop(2, 8), {}, {}}, false, api.OK)
	wantCheck(t, "the last of a body", Program{loop(2, 1), {}, loop(1, 1), {}}, false, api.ErrProgram)
	wantCheck(t, "three deep", Program{loop(5, 1), loop(3, 1), loop(1, 1), {}, {}, {}}, false, api.ErrProgram)
	wantCheck(t, "in a Loop of no turns", Program{loop(3, 0), loop(1, 1), {}, {}}, false, api.ErrProgram)
	wantCheck(t, "in a Loop that reaches beyond the end", Program{loop(9, 1), loop(1, 1), {}}, false, api.ErrProgram)
}

// The second of three Loops is not allowed, because it is in a body itself; the third is in its body alone.
// Only loopHolds can tell: Check stops at the second one.
func TestLoopInTheBodyOfALoopThatIsNotAllowed(t *testing.T) {
	p := Program{loop(1, 1), loop(3, 1), {}, loop(1, 1), {}}
	if !p.loopHolds(0) || p.loopHolds(1) || p.loopHolds(3) {
		t.Errorf("P7.1: Loops that hold: %v, %v, %v, want the first alone", p.loopHolds(0), p.loopHolds(1), p.loopHolds(3))
	}
	wantCheck(t, "in a body that is in a body", p, false, api.ErrProgram)
	for _, bad := range []Instr{loop(3, 0), loop(3, 9), loop(3, -1), loop(200, 1), {Op: Loop, Dst: 12, B: 3, Imm: 1}} {
		q := Program{bad, {}, loop(1, 1), {}}
		if q.loopHolds(2) {
			t.Errorf("P7.1: a Loop holds in the body of %v", bad)
		}
	}
}

func TestCheckSkipsWithoutLoops(t *testing.T) {
	for size := 1; size <= 24; size++ {
		for at := range size {
			for imm := int16(-30); imm <= 30; imm++ {
				err := api.OK
				if imm < 1 || int(imm) > size-1-at {
					err = api.ErrProgram
				}
				wantCheck(t, "every Skip", with(size, map[int]Instr{at: skip(imm)}), false, err)
			}
		}
	}
	for _, imm := range []int16{math.MinInt16, math.MinInt16 + 1, -256, 256, 257, 32766, math.MaxInt16} {
		wantCheck(t, "far away", Program{{}, skip(imm), {}, {}}, false, api.ErrProgram)
	}
	wantCheck(t, "to the end", Program{skip(1), {}}, false, api.OK)
	wantCheck(t, "beyond the end", Program{skip(2), {}}, false, api.ErrProgram)
	wantCheck(t, "to the next one", Program{skip(0), {}}, false, api.ErrProgram)
	wantCheck(t, "to itself", Program{skip(-1), {}}, false, api.ErrProgram)
	wantCheck(t, "backwards", Program{{}, skip(-2), {}}, false, api.ErrProgram)
	wantCheck(t, "over a Skip", Program{skip(2), skip(1), {}, {}}, false, api.OK)
}

func TestCheckSkipsAndLoops(t *testing.T) {
	wantCheck(t, "within a body", Program{loop(3, 2), skip(1), {}, {}, {}}, false, api.OK)
	wantCheck(t, "to the end of its body", Program{loop(3, 2), skip(2), {}, {}, {}}, false, api.OK)
	wantCheck(t, "beyond the end of its body", Program{loop(3, 2), skip(3), {}, {}, {}}, false, api.ErrProgram)
	wantCheck(t, "from a body to the end", Program{loop(3, 2), skip(4), {}, {}, {}, {}}, false, api.ErrProgram)
	wantCheck(t, "to the end, which is that of its body", Program{loop(3, 2), skip(2), {}, {}}, false, api.OK)
	wantCheck(t, "the last of a body", Program{loop(3, 2), {}, {}, skip(1), {}, {}}, false, api.ErrProgram)
	wantCheck(t, "the last but one of a body", Program{loop(3, 2), {}, skip(1), {}, {}, {}}, false, api.OK)
	wantCheck(t, "to a Loop", Program{skip(1), {}, loop(2, 2), {}, {}, {}}, false, api.OK)
	wantCheck(t, "into a body, its first", Program{skip(1), loop(2, 2), {}, {}, {}}, false, api.ErrProgram)
	wantCheck(t, "into a body, its last", Program{skip(2), loop(2, 2), {}, {}, {}}, false, api.ErrProgram)
	wantCheck(t, "over a body", Program{skip(3), loop(2, 2), {}, {}, {}}, false, api.OK)
	wantCheck(t, "over a body to the end", Program{skip(3), loop(2, 2), {}, {}}, false, api.OK)
	wantCheck(t, "after a body", Program{loop(1, 2), {}, skip(1), {}, {}}, false, api.OK)
	wantCheck(t, "to the end of its body, where a Loop is", Program{loop(2, 2), skip(1), {}, loop(1, 2), {}}, false, api.OK)
	wantCheck(t, "from a body into another one", Program{loop(2, 2), skip(2), {}, loop(1, 2), {}}, false, api.ErrProgram)
	wantCheck(t, "over two bodies", Program{skip(4), loop(1, 2), {}, loop(1, 2), {}, {}}, false, api.OK)
	wantCheck(t, "over a body into another one", Program{skip(3), loop(1, 2), {}, loop(1, 2), {}, {}}, false, api.ErrProgram)
}

// What a Skip leads into is judged before the Loops behind it, whether those are allowed or not.
// Each of these Loops names a register that there is not, so the error shows which instruction was judged.
func TestCheckSkipsToLoopsThatAreNotAllowed(t *testing.T) {
	bad := Instr{Op: Loop, Dst: 12, B: 2, Imm: 1}
	wantCheck(t, "into its body", Program{skip(1), bad, {}, {}}, false, api.ErrProgram)
	wantCheck(t, "into its body, the last", Program{skip(2), bad, {}, {}}, false, api.ErrProgram)
	wantCheck(t, "over its body", Program{skip(3), bad, {}, {}}, false, api.ErrRange)
	wantCheck(t, "to itself", Program{skip(1), {}, bad, {}, {}}, false, api.ErrRange)
	bad.B = 0
	wantCheck(t, "to its body, which is empty", Program{skip(1), bad, {}, {}}, false, api.ErrRange)
	bad.B = 1
	wantCheck(t, "its body ends ahead", Program{skip(2), bad, {}, {}}, false, api.ErrRange)
	bad.B = 9
	wantCheck(t, "into its body, which goes beyond the end", Program{skip(1), bad, {}, {}}, false, api.ErrProgram)
	wantCheck(t, "to the end, which B puts in its body", Program{skip(3), bad, {}, {}}, false, api.ErrProgram)
	bad.B, bad.Imm = 2, 9
	wantCheck(t, "too many turns", Program{skip(1), bad, {}, {}}, false, api.ErrProgram)
	bad.Imm = 1
	wantCheck(t, "to the end of a body, where that of a Loop in it is", Program{loop(2, 1), skip(1), bad, {}, {}}, false, api.ErrProgram)
	wantCheck(t, "over a Loop in a body, whose body is in it", Program{loop(5, 1), skip(1), bad, {}, {}, {}}, false, api.ErrRange)
}

func TestCheckOrder(t *testing.T) {
	kind, register, program := Instr{Op: Ops}, Instr{Op: Mov, A: 12}, Instr{Op: Skip}
	faults := map[api.Errno]Instr{api.ErrKind: kind, api.ErrRange: register, api.ErrProgram: program}
	for first, a := range faults {
		for _, b := range faults {
			for gap := 1; gap < 22; gap++ {
				p := with(24, map[int]Instr{1: a, 1 + gap: b})
				wantCheck(t, "the first instruction's error", p, false, first)
			}
		}
	}
	all := Instr{Op: 255, Dst: 255, A: 255, B: 255, Imm: -1}
	wantCheck(t, "kind ahead of range", Program{all}, true, api.ErrKind)
	wantCheck(t, "kind ahead of range", Program{{Op: Discard, Dst: 12}}, false, api.ErrKind)
	wantCheck(t, "range of a Discard that may be", Program{{Op: Discard, Dst: 12}}, true, api.ErrRange)
	for _, in := range []Instr{{Dst: 12}, {A: 12}, {B: 12}} {
		in.Op = Skip
		wantCheck(t, "range ahead of program, a Skip", Program{in}, true, api.ErrRange)
	}
	for _, in := range []Instr{{Dst: 12}, {A: 12}} {
		in.Op = Loop
		wantCheck(t, "range ahead of program, a Loop", Program{in}, true, api.ErrRange)
		wantCheck(t, "range ahead of program, a Loop in a Loop", Program{loop(2, 1), in, {}}, true, api.ErrRange)
	}
	wantCheck(t, "a Loop without room ahead of its body", Program{loop(2, 1), kind}, true, api.ErrProgram)
	wantCheck(t, "a body ahead of what is behind it", Program{loop(2, 1), {}, register, kind}, true, api.ErrRange)
	wantCheck(t, "a Skip ahead of its target", Program{skip(3), {}, kind}, true, api.ErrProgram)
	wantCheck(t, "a target that is not allowed is still one", Program{skip(1), {}, kind}, true, api.ErrKind)
}

func TestFuel(t *testing.T) {
	for n := range 300 {
		wantFuel(t, "without Loops", movs(n), n)
	}
	for op := range 256 {
		if Op(op) != Loop {
			wantFuel(t, "an op that is no Loop", Program{{Op: Op(op), B: 255, Imm: 8}}, 1)
		}
	}
	for b := range 256 {
		for _, imm := range []int{math.MinInt16, -255, -8, -1, 0, 1} {
			wantFuel(t, "no turn more than one", Program{loop(uint8(b), int16(imm)), {}}, 2)
		}
		for imm := 2; imm < 12; imm++ {
			wantFuel(t, "every B", Program{loop(uint8(b), int16(imm)), {}}, 2+b*(imm-1))
		}
	}
	wantFuel(t, "nil", nil, 0)
	wantFuel(t, "two Loops", Program{loop(2, 3), {}, {}, loop(1, 8), {}}, 5+4+7)
	wantFuel(t, "a Loop that counts down beside another", Program{loop(2, -3), {}, {}, loop(1, 8), {}}, 5+7)
	wantFuel(t, "a Loop in a Loop", Program{loop(3, 3), loop(1, 8), {}, {}}, 4+6+7)
	wantFuel(t, "the greatest numbers", Program{loop(255, math.MaxInt16)}, 1+255*32766)
	many := slices.Repeat(Program{loop(255, math.MaxInt16)}, 1000)
	wantFuel(t, "many of the greatest numbers", many, 1000*(1+255*32766))
}

// A program that the other limits allow has a Fuel of at most 185, so checkFuel is asked by itself.
func TestCheckFuel(t *testing.T) {
	longest := with(24, map[int]Instr{0: loop(23, 8)})
	wantFuel(t, "the most that is allowed", longest, 185)
	wantCheck(t, "the most that is allowed", longest, false, api.OK)
	for _, c := range []struct {
		p     Program
		fuel  int
		err   api.Errno
		check api.Errno
	}{
		{movs(200), 200, api.OK, api.ErrMany},
		{movs(201), 201, api.ErrSize, api.ErrMany},
		{with(24, map[int]Instr{0: loop(22, 9)}), 200, api.OK, api.ErrProgram},
		{with(24, map[int]Instr{0: loop(177, 2)}), 201, api.ErrSize, api.ErrProgram},
		{Program{loop(1, 199), {}}, 200, api.OK, api.ErrProgram},
		{Program{loop(1, 200), {}}, 201, api.ErrSize, api.ErrProgram},
		{nil, 0, api.OK, api.OK},
	} {
		wantFuel(t, "about 200", c.p, c.fuel)
		if e := c.p.checkFuel(); e != c.err {
			t.Errorf("P7.1: a Fuel of %d: error %d, want %d", c.fuel, e, c.err)
		}
		wantCheck(t, "other errors come ahead of Fuel's", c.p, true, c.check)
	}
}

func TestBody(t *testing.T) {
	for b := range 256 {
		for i := range 30 {
			p := with(30, map[int]Instr{i: loop(uint8(b), 3)})
			wantBody(t, "every B", p, i, i+1, i+1+b, true)
			for _, j := range []int{math.MinInt, -30, -1, i - 1, i + 1, 30, 31, 256, math.MaxInt} {
				wantBody(t, "no Loop there", p, j, 0, 0, false)
			}
		}
	}
	for op := range 256 {
		if Op(op) != Loop {
			wantBody(t, "another op", Program{{Op: Op(op), B: 1, Imm: 1}, {}}, 0, 0, 0, false)
		}
	}
	for _, in := range []Instr{loop(1, 0), loop(1, 9), loop(1, -5), {Op: Loop, Dst: 99, A: 99, B: 1}} {
		wantBody(t, "a Loop that is not allowed", Program{in, {}}, 0, 1, 2, true)
	}
	wantBody(t, "a Loop alone", Program{loop(255, 1)}, 0, 1, 256, true)
	wantBody(t, "a Loop in a Loop", Program{loop(2, 1), loop(1, 1), {}}, 1, 2, 3, true)
	wantBody(t, "nil", nil, 0, 0, 0, false)
	wantBody(t, "nil", nil, -1, 0, 0, false)
	wantBody(t, "what is in the spare capacity", with(5, map[int]Instr{3: loop(1, 1)})[:3], 3, 0, 0, false)
}

// owners returns, for each index, the first Loop whose body has it, or -1: later Loops are overwritten by those ahead of them.
func owners(p Program) []int {
	list := slices.Repeat([]int{-1}, len(p)+300)
	for i := len(p) - 1; i >= 0; i-- {
		if p[i].Op != 12 {
			continue
		}
		for k := range int(p[i].B) {
			list[i+1+k] = i
		}
	}
	return list
}

// modelCheck is Check, worked out from the chapter's text by lists of who owns each index.
func modelCheck(p Program, discards bool) api.Errno {
	if len(p) >= 25 {
		return api.ErrMany
	}
	own, fuel := owners(p), len(p)
	for i, in := range p {
		op, behind := int(in.Op), len(p)-1-i
		if op > 14 || op == 13 && !discards {
			return api.ErrKind
		}
		if in.Dst >= 12 || in.A >= 12 || in.B >= 12 && op != 12 || op == 14 && in.A >= 9 {
			return api.ErrRange
		}
		if op == 12 {
			if own[i] >= 0 || in.B == 0 || int(in.B) > behind || in.Imm <= 0 || in.Imm >= 9 {
				return api.ErrProgram
			}
			fuel += int(in.B) * int(in.Imm-1)
		}
		if op == 11 && (in.Imm <= 0 || int(in.Imm) > behind || modelLeaves(p, own, i)) {
			return api.ErrProgram
		}
	}
	if fuel >= 201 {
		return api.ErrSize
	}
	return api.OK
}

// modelLeaves reports whether the Skip at i leads beyond its body, or to an index that another Loop owns.
func modelLeaves(p Program, own []int, i int) bool {
	target := i + int(p[i].Imm) + 1
	if mine := own[i]; mine >= 0 && target > mine+1+int(p[mine].B) {
		return true
	}
	return own[target] >= 0 && own[target] != own[i]
}

// anyProgram draws one of three kinds: any numbers, numbers about the limits, and ones that are mostly allowed.
func anyProgram(s *source) Program {
	kind := s.below(3)
	p := make(Program, s.below([]int{30, 8, 26}[kind]))
	for i := range p {
		switch kind {
		case 0:
			p[i] = Instr{Op(s.below(256)), uint8(s.below(256)), uint8(s.below(256)), uint8(s.below(256)), int16(s.below(65536))}
		case 1:
			p[i] = Instr{Op([]Op{End, Mov, Skip, Loop, Loop, Skip, Discard, Mat, Ops}[s.below(9)]), uint8(s.below(13)), uint8(s.below(10)), uint8(s.below(5)), int16(s.below(12) - 2)}
		default:
			p[i] = Instr{Op(s.below(15)), uint8(s.below(12)), uint8(s.below(9)), uint8(s.below(12)), int16(s.below(4) + 1)}
			if p[i].Op == Skip && s.below(3) > 0 || p[i].Op == Loop && s.below(2) > 0 {
				p[i].Op = Add
			}
		}
	}
	if s.below(3) == 0 {
		for i := range p {
			p[i].Dst, p[i].A = p[i].Dst%12, p[i].A%9
		}
	}
	return p
}

func TestCheckOfAnyPrograms(t *testing.T) {
	s := source(7)
	seen := make([]int, 17)
	for range 60000 {
		p := anyProgram(&s)
		for _, discards := range []bool{true, false} {
			want := modelCheck(p, discards)
			wantCheck(t, "any program", p, discards, want)
			seen[want]++
		}
	}
	for _, e := range []api.Errno{api.OK, api.ErrKind, api.ErrRange, api.ErrMany, api.ErrProgram} {
		if seen[e] < 1000 {
			t.Errorf("error %d is drawn only %d times", e, seen[e])
		}
	}
}

// All programs of up to four instructions out of those whose order matters.
func TestCheckOfAllShortPrograms(t *testing.T) {
	list := []Instr{{Op: Mov}, {Op: Mov, Dst: 12}, skip(1), skip(2), skip(3), loop(1, 2), loop(2, 2), loop(3, 2), {Op: Loop, Dst: 12, B: 2, Imm: 1}, {Op: Ops}}
	for size := range 5 {
		total := 1
		for range size {
			total *= len(list)
		}
		for n := range total {
			p := make(Program, size)
			for i := range p {
				p[i] = list[n%len(list)]
				n /= len(list)
			}
			wantCheck(t, "all short programs", p, true, modelCheck(p, true))
		}
	}
}

// What the later layers lean on: a valid program's Fuel is bounded, its bodies end with it, and only Discards hang on discards.
func TestWhatCheckAllows(t *testing.T) {
	s := source(21)
	for range 60000 {
		p := anyProgram(&s)
		if p.Check(true) != api.OK {
			continue
		}
		if p.Fuel() > 185 || p.Fuel() < len(p) {
			t.Errorf("P7.1: a valid program of %d instructions has a Fuel of %d", len(p), p.Fuel())
		}
		if (p.Check(false) == api.OK) == p.Discards() {
			t.Errorf("P7.1: Discards is %v, but without them Check is %d", p.Discards(), p.Check(false))
		}
		for i := range p {
			if _, to, ok := p.Body(i); ok && to > len(p) {
				t.Errorf("P7.1: the body of a valid Loop ends at %d of %d", to, len(p))
			}
		}
	}
}

// modelBytes is the encoding, its numbers written out bit by bit.
func modelBytes(p Program) []byte {
	list := modelNumber(nil, len(p))
	for _, in := range p {
		list = append(list, uint8(in.Op), in.Dst, in.A, in.B)
		imm := 2 * int(in.Imm)
		if in.Imm < 0 {
			imm = -imm - 1
		}
		list = modelNumber(list, imm)
	}
	return list
}

func modelNumber(b []byte, n int) []byte {
	for ; n > 127; n >>= 7 {
		b = append(b, byte(n&127|128))
	}
	return append(b, byte(n))
}

func TestPut(t *testing.T) {
	wantBytes(t, "the example", nil, []byte{0})
	wantBytes(t, "the example", Program{}, []byte{0})
	wantBytes(t, "one", Program{{Op: Mat, Dst: 1, A: 2, B: 3, Imm: 4}}, []byte{1, 14, 1, 2, 3, 8})
	wantBytes(t, "below 0", Program{{Op: Const, Imm: -1}}, []byte{1, 2, 0, 0, 0, 1})
	wantBytes(t, "the greatest Imm", Program{{Imm: math.MaxInt16}}, []byte{1, 0, 0, 0, 0, 0xfe, 0xff, 0x03})
	wantBytes(t, "the least Imm", Program{{Imm: math.MinInt16}}, []byte{1, 0, 0, 0, 0, 0xff, 0xff, 0x03})
	wantBytes(t, "two", Program{loop(1, 8), {Op: Discard, A: 9}}, []byte{2, 12, 0, 0, 1, 16, 13, 0, 9, 0, 0})
	wantBytes(t, "not allowed", Program{{Op: 255, Dst: 254, A: 253, B: 252, Imm: 64}}, []byte{1, 255, 254, 253, 252, 0x80, 0x01})
	wantBytes(t, "more than 24", movs(300), append([]byte{0xac, 0x02}, bytes.Repeat([]byte{1, 0, 0, 0, 0}, 300)...))
	for imm := math.MinInt16; imm <= math.MaxInt16; imm++ {
		p := Program{{Op: Const, Imm: int16(imm)}}
		wantBytes(t, "every Imm", p, modelBytes(p))
	}
}

func TestPutAppends(t *testing.T) {
	w := &wire.Writer{}
	w.Byte(77)
	Program{{Op: Add, Dst: 1}}.Put(w)
	Program{}.Put(w)
	Program{{Op: Sub, Dst: 2}}.Put(w)
	want := []byte{77, 1, 3, 1, 0, 0, 0, 0, 1, 4, 2, 0, 0, 0}
	if !bytes.Equal(w.Bytes(), want) {
		t.Errorf("P7.2: %x, want %x", w.Bytes(), want)
	}
	r := wire.Read(w.Bytes()[1:])
	for i, want := range []Program{{{Op: Add, Dst: 1}}, nil, {{Op: Sub, Dst: 2}}} {
		if got := Take(r, false); !slices.Equal(got, want) {
			t.Errorf("P7.2: program %d of three: %v, want %v", i, got, want)
		}
	}
	if r.End() != api.OK {
		t.Errorf("P7.2: error %d after three programs", r.End())
	}
}

func TestTake(t *testing.T) {
	wantTaken(t, "the example", []byte{0}, false, nil)
	wantTaken(t, "one", []byte{1, 14, 1, 2, 3, 8}, false, Program{{Op: Mat, Dst: 1, A: 2, B: 3, Imm: 4}})
	wantTaken(t, "two", []byte{2, 12, 4, 5, 1, 16, 13, 6, 7, 8, 1}, true, Program{{Loop, 4, 5, 1, 8}, {Discard, 6, 7, 8, -1}})
	wantTaken(t, "24 instructions", encoded(movs(24)), false, movs(24))
	for imm := math.MinInt16; imm <= math.MaxInt16; imm++ {
		p := Program{{Op: Const, Imm: int16(imm)}}
		wantTaken(t, "every Imm", modelBytes(p), false, p)
	}
}

func TestTakeWhatWasPut(t *testing.T) {
	s := source(3)
	allowed := 0
	for range 30000 {
		p := anyProgram(&s)
		b := modelBytes(p)
		wantBytes(t, "any program", p, b)
		for _, discards := range []bool{true, false} {
			if err := modelCheck(p, discards); err != api.OK {
				wantRefused(t, "any program", b, discards, err)
				continue
			}
			wantTaken(t, "any program", b, discards, p)
			allowed++
		}
	}
	if allowed < 1000 {
		t.Errorf("only %d programs are allowed", allowed)
	}
}

func TestTakeOfTooFewBytes(t *testing.T) {
	for _, p := range []Program{
		{{}},
		{{Op: Mat, Dst: 1, A: 2, B: 3, Imm: 4}},
		{{Op: Const, Imm: math.MinInt16}, {Op: Const, Imm: math.MaxInt16}},
		with(24, map[int]Instr{0: loop(23, 8), 5: skip(3), 20: {Op: Discard, Imm: 1000}}),
	} {
		b := encoded(p)
		wantTaken(t, "all bytes", b, true, p)
		for n := range b {
			wantRefused(t, "too few bytes", b[:n], true, api.ErrShort)
		}
	}
	wantRefused(t, "nil", nil, true, api.ErrShort)
	wantRefused(t, "missing bytes of a program that would not be allowed", []byte{2, 15, 99, 99, 99, 0}, true, api.ErrShort)
}

func TestTakeOfBadBytes(t *testing.T) {
	for n := 25; n < 128; n++ {
		wantRefused(t, "too many instructions", encoded(movs(n)), true, api.ErrMany)
		wantRefused(t, "too many instructions that are not there", []byte{byte(n)}, true, api.ErrMany)
	}
	wantRefused(t, "very many instructions", []byte{255, 255, 255, 255, 255, 255, 255, 255, 255, 1}, true, api.ErrMany)
	wantRefused(t, "a Count of too many bytes", []byte{0x80, 0}, true, api.ErrForm)
	wantRefused(t, "an Imm of too many bytes", []byte{1, 1, 0, 0, 0, 0x80, 0}, true, api.ErrForm)
	wantRefused(t, "an Imm of more than 64 bits", []byte{1, 1, 0, 0, 0, 255, 255, 255, 255, 255, 255, 255, 255, 255, 2}, true, api.ErrForm)
	for _, imm := range []int{math.MinInt, -65536, -32770, -32769, 32768, 32769, 65535, 65536, 65537, 1 << 32, math.MaxInt} {
		w := &wire.Writer{}
		w.Put([]byte{1, byte(Const), 0, 0, 0})
		w.Int(imm)
		wantRefused(t, "an Imm that is no int16", w.Bytes(), true, api.ErrRange)
	}
	wantRefused(t, "no such op", []byte{1, 15, 0, 0, 0, 0}, true, api.ErrKind)
	wantRefused(t, "a Discard", []byte{1, 13, 0, 0, 0, 0}, false, api.ErrKind)
	wantRefused(t, "no such register", []byte{1, 1, 12, 0, 0, 0}, true, api.ErrRange)
	wantRefused(t, "a Loop without a body", []byte{1, 12, 0, 0, 0, 2}, true, api.ErrProgram)
	wantRefused(t, "a Loop without a body, and other bytes", []byte{1, 12, 0, 0, 1, 2, 0, 0, 0, 0, 0}, true, api.ErrProgram)
	wantRefused(t, "a Skip to itself", []byte{1, 11, 0, 0, 0, 1}, true, api.ErrProgram)
}

// Whatever the bytes are, they are either refused or just those that Put makes of a valid program.
func TestTakeOfAnyBytes(t *testing.T) {
	s := source(99)
	taken := 0
	for range 200000 {
		b := make([]byte, 1+s.below(40))
		span := []int{3, 12, 16, 256}[s.below(4)]
		for i := range b {
			b[i] = byte(s.below(span))
		}
		discards := s.below(2) == 0
		r := wire.Read(b)
		p := Take(r, discards)
		if r.Err() != api.OK {
			if len(p) > 0 {
				t.Errorf("P7.2: %v beside error %d", p, r.Err())
			}
			continue
		}
		if len(p) > 1 {
			taken++
		}
		if modelCheck(p, discards) != api.OK || !bytes.Equal(modelBytes(p), b[:r.At()]) {
			t.Errorf("P7.2: %x is taken as %v", b, p)
		}
	}
	if taken < 1000 {
		t.Errorf("only %d programs are taken", taken)
	}
}

func TestTakeAfterAnError(t *testing.T) {
	r := wire.Read(encoded(movs(3)))
	r.Fail(api.ErrState)
	if p := Take(r, true); len(p) > 0 || r.Err() != api.ErrState || r.At() != 0 {
		t.Errorf("P7.2: after an error: %v, error %d, %d bytes read", p, r.Err(), r.At())
	}
	r = wire.Read([]byte{1, 15, 0, 0, 0, 0, 0})
	Take(r, true)
	if p := Take(r, true); len(p) > 0 || r.Err() != api.ErrKind {
		t.Errorf("P7.2: after a program that is not valid: %v, error %d", p, r.Err())
	}
	r = &wire.Reader{}
	if p := Take(r, true); len(p) > 0 || r.Err() != api.ErrShort {
		t.Errorf("P7.2: of a reader's zero value: %v, error %d", p, r.Err())
	}
}

func TestNilWritersAndReaders(t *testing.T) {
	Program(nil).Put(nil)
	movs(3).Put(nil)
	Program{{Op: 255}}.Put(nil)
	for _, discards := range []bool{true, false} {
		if p := Take(nil, discards); len(p) > 0 {
			t.Errorf("P2: Take of a nil reader is %v", p)
		}
	}
}

func TestArgumentsAreLeft(t *testing.T) {
	s := source(5)
	for range 2000 {
		whole := append(anyProgram(&s), anyProgram(&s)...)
		kept := slices.Clone(whole)
		p := whole[:s.below(len(whole)+1)]
		p.Check(true)
		p.Check(false)
		p.Fuel()
		p.Discards()
		p.Body(s.below(30) - 2)
		w := &wire.Writer{}
		p.Put(w)
		b := w.Bytes()
		if !slices.Equal(whole, kept) {
			t.Fatalf("P2: %v was changed to %v", kept, whole)
		}
		for i := range whole {
			whole[i] = Instr{Op: 99}
		}
		if !bytes.Equal(w.Bytes(), b) {
			t.Fatal("P2: a writer keeps the program")
		}
	}
}

func TestResultsAreNew(t *testing.T) {
	b := encoded(Program{{Op: Add, Dst: 1}, {Op: Mul, Dst: 2}})
	two := append(slices.Clone(b), b...)
	r := wire.Read(two)
	first := Take(r, false)
	for i := range first[:cap(first)] {
		first[:cap(first)][i] = Instr{Op: 99}
	}
	if got := Take(r, false); !slices.Equal(got, Program{{Op: Add, Dst: 1}, {Op: Mul, Dst: 2}}) {
		t.Errorf("P2: the second program is %v", got)
	}
	if !bytes.Equal(two, append(slices.Clone(b), b...)) {
		t.Error("P2: the bytes were changed")
	}
}

func TestSameArgumentsSameResults(t *testing.T) {
	s := source(11)
	for range 2000 {
		p := anyProgram(&s)
		err, fuel, b := p.Check(true), p.Fuel(), encoded(p)
		anyProgram(&s).Check(false)
		q := slices.Clone(p)
		if q.Check(true) != err || q.Fuel() != fuel || !bytes.Equal(encoded(q), b) {
			t.Fatalf("P2: other results of %v", p)
		}
	}
}
