package state

import (
	"bytes"
	"math"
	"slices"
	"testing"

	"azulejo/api"
	"azulejo/wire"
)

// source draws from a fixed sequence, so that every run has the same samples.
type source uint32

func (s *source) below(n int) int {
	*s = *s*1664525 + 1013904223
	return int(*s>>8) % n
}

// plain is Plain's state, written out, so that the tests of other functions do not lean on Plain.
func plain() State {
	return State{Depth: 7, Stencil: 7, Channels: 15, Scissor: Box{0, 0, 64, 64}}
}

// plainBytes is its encoding.
func plainBytes() []byte { return []byte{7, 0, 7, 0, 0, 0, 0, 0, 0, 15, 0, 0, 0, 64, 64} }

// with returns the plain state after a change.
func with(change func(s *State)) State {
	s := plain()
	change(&s)
	return s
}

func boxed(x0, y0, x1, y1 int) State {
	return with(func(s *State) { s.Scissor = Box{x0, y0, x1, y1} })
}

// field is one whose values are numbered: how it is set, where its byte is, and the last value that is defined.
type field struct {
	name string
	at   int
	last int
	set  func(s *State, n uint8)
}

func fields() []field {
	return []field{
		{"Depth", 0, 7, func(s *State, n uint8) { s.Depth = Func(n) }},
		{"Stencil", 2, 7, func(s *State, n uint8) { s.Stencil = Func(n) }},
		{"Ref", 3, 255, func(s *State, n uint8) { s.Ref = n }},
		{"Mask", 4, 255, func(s *State, n uint8) { s.Mask = n }},
		{"Fail", 5, 5, func(s *State, n uint8) { s.Fail = Op(n) }},
		{"Hidden", 6, 5, func(s *State, n uint8) { s.Hidden = Op(n) }},
		{"Pass", 7, 5, func(s *State, n uint8) { s.Pass = Op(n) }},
		{"Blend", 8, 3, func(s *State, n uint8) { s.Blend = Blend(n) }},
		{"Channels", 9, 15, func(s *State, n uint8) { s.Channels = n }},
		{"Cull", 10, 2, func(s *State, n uint8) { s.Cull = Cull(n) }},
	}
}

func encoded(s State) []byte {
	w := &wire.Writer{}
	s.Put(w)
	return w.Bytes()
}

func wantCheck(t *testing.T, what string, s State, err api.Errno) {
	t.Helper()
	if e := s.Check(); e != err {
		t.Errorf("P9.1: %s: Check error %d, want %d: %+v", what, e, err, s)
	}
}

func wantLate(t *testing.T, what string, s State, late bool) {
	t.Helper()
	if s.Late() != late {
		t.Errorf("P9.1: %s: Late is %v: %+v", what, s.Late(), s)
	}
}

func wantBytes(t *testing.T, what string, s State, b []byte) {
	t.Helper()
	if got := encoded(s); !bytes.Equal(got, b) {
		t.Errorf("P9.2: %s: Put %x, want %x", what, got, b)
	}
}

// wantTaken takes a state alone, and one that is followed by other bytes, which have to be left.
func wantTaken(t *testing.T, what string, b []byte, s State) {
	t.Helper()
	for _, more := range [][]byte{nil, {7, 8, 9}} {
		r := wire.Read(append(slices.Clone(b), more...))
		if got := Take(r); got != s || r.Err() != api.OK {
			t.Errorf("P9.2: %s: Take %+v, error %d, want %+v", what, got, r.Err(), s)
		}
		if r.At() != Size || r.Left() != len(more) {
			t.Errorf("P9.2: %s: Take reads %d bytes and leaves %d, want %d and %d", what, r.At(), r.Left(), Size, len(more))
		}
	}
}

func wantRefused(t *testing.T, what string, b []byte, err api.Errno) {
	t.Helper()
	r := wire.Read(b)
	if got := Take(r); got != (State{}) || r.Err() != err || r.Left() != 0 {
		t.Errorf("P9.2: %s: Take %+v, error %d, %d left, want zero and error %d", what, got, r.Err(), r.Left(), err)
	}
}

func TestNumbers(t *testing.T) {
	for n, f := range []Func{Never, Less, Equal, LessEqual, Greater, NotEqual, GreaterEqual, Always, Funcs} {
		if int(f) != n {
			t.Errorf("P9.1: Func %d is numbered %d", n, f)
		}
	}
	for n, o := range []Op{Keep, Zero, Replace, More, Fewer, Invert, Ops} {
		if int(o) != n {
			t.Errorf("P9.1: Op %d is numbered %d", n, o)
		}
	}
	for n, b := range []Blend{Over, Alpha, Sum, Times, Blends} {
		if int(b) != n {
			t.Errorf("P9.1: Blend %d is numbered %d", n, b)
		}
	}
	for n, c := range []Cull{None, Back, Front, Culls} {
		if int(c) != n {
			t.Errorf("P9.1: Cull %d is numbered %d", n, c)
		}
	}
	if Funcs != 8 || Ops != 6 || Blends != 4 || Culls != 3 || Size != 15 {
		t.Errorf("P9.1: %d Funcs, %d Ops, %d Blends, %d Culls, Size %d", Funcs, Ops, Blends, Culls, Size)
	}
}

func TestHoldsExample(t *testing.T) {
	if !Less.Holds(1, 2) || Less.Holds(2, 1) || Less.Holds(2, 2) {
		t.Error("P9.1: Less holds for 1 and 2")
	}
}

// Each defined Func is held against the operators that its name says.
func TestHoldsAsNamed(t *testing.T) {
	names := map[Func]func(a, b int) bool{
		Never:        func(a, b int) bool { return false },
		Less:         func(a, b int) bool { return a < b },
		Equal:        func(a, b int) bool { return a == b },
		LessEqual:    func(a, b int) bool { return a <= b },
		Greater:      func(a, b int) bool { return a > b },
		NotEqual:     func(a, b int) bool { return a != b },
		GreaterEqual: func(a, b int) bool { return a >= b },
		Always:       func(a, b int) bool { return true },
	}
	list := []int{math.MinInt, math.MinInt + 1, -1 << 32, -65536, -2, -1, 0, 1, 2, 3, 255, 65535, 1 << 32, math.MaxInt - 1, math.MaxInt}
	for f, named := range names {
		for _, a := range list {
			for _, b := range list {
				if f.Holds(a, b) != named(a, b) {
					t.Errorf("P9.1: Func %d of %d and %d is %v", f, a, b, f.Holds(a, b))
				}
			}
		}
	}
}

// Every Func, defined or not, has its answers in its lowest three bits.
func TestHoldsByBits(t *testing.T) {
	pairs := [3][][2]int{
		{{1, 2}, {-1, 0}, {-2, -1}, {math.MinInt, math.MaxInt}, {math.MinInt, 0}, {0, math.MaxInt}, {math.MinInt, math.MinInt + 1}},
		{{0, 0}, {-5, -5}, {7, 7}, {math.MaxInt, math.MaxInt}, {math.MinInt, math.MinInt}},
		{{2, 1}, {0, -1}, {-1, -2}, {math.MaxInt, math.MinInt}, {0, math.MinInt}, {math.MaxInt, 0}, {math.MaxInt, math.MaxInt - 1}},
	}
	powers := [3]int{1, 2, 4}
	for n := range 256 {
		for i, list := range pairs {
			want := n/powers[i]%2 == 1
			for _, p := range list {
				if got := Func(n).Holds(p[0], p[1]); got != want {
					t.Errorf("P9.1: Func %d of %d and %d is %v", n, p[0], p[1], got)
				}
			}
		}
	}
}

func TestDoAtTheEnds(t *testing.T) {
	list := []uint8{0, 1, 254, 255}
	for i, n := range list {
		for _, ref := range list {
			for o, want := range map[Op]uint8{
				Keep:    n,
				Zero:    0,
				Replace: ref,
				More:    []uint8{1, 2, 255, 255}[i],
				Fewer:   []uint8{0, 0, 253, 254}[i],
				Invert:  []uint8{255, 254, 1, 0}[i],
				Ops:     n,
				7:       n,
				255:     n,
			} {
				if got := o.Do(n, ref); got != want {
					t.Errorf("P9.1: Op %d of %d and %d is %d, want %d", o, n, ref, got, want)
				}
			}
		}
	}
}

// modelDo is Do of any Op, computed in ints.
func modelDo(o, n, ref int) int {
	list := []int{n, 0, ref, min(n+1, 255), max(n-1, 0), 255 - n}
	if o >= len(list) {
		return n
	}
	return list[o]
}

func TestDoOfAll(t *testing.T) {
	for o := range 256 {
		for n := range 256 {
			for _, ref := range []int{0, 1, 2, 77, 127, 128, 200, 254, 255} {
				if got := Op(o).Do(uint8(n), uint8(ref)); int(got) != modelDo(o, n, ref) {
					t.Errorf("P9.1: Op %d of %d and %d is %d, want %d", o, n, ref, got, modelDo(o, n, ref))
				}
			}
		}
	}
}

func TestPlain(t *testing.T) {
	s := Plain()
	if s.Depth != Always || s.Stencil != Always || s.Channels != 15 || s.Scissor != (Box{0, 0, 64, 64}) {
		t.Errorf("P9.1: Plain is %+v", s)
	}
	if s.Write || s.Ref != 0 || s.Mask != 0 {
		t.Errorf("P9.1: Plain is %+v, want no Write, and Ref and Mask 0", s)
	}
	if s.Fail != Keep || s.Hidden != Keep || s.Pass != Keep || s.Blend != Over || s.Cull != None {
		t.Errorf("P9.1: Plain is %+v, want its ops, Blend and Cull 0", s)
	}
	if s != plain() {
		t.Errorf("P9.1: Plain is %+v, want %+v", s, plain())
	}
	wantCheck(t, "Plain", s, api.OK)
	wantLate(t, "Plain", s, true)
	s.Scissor.X1, s.Depth = 3, Less
	if Plain() != plain() {
		t.Error("P2: Plain depends on what was done with an earlier one")
	}
}

func TestCheckFields(t *testing.T) {
	for _, f := range fields() {
		for n := range 256 {
			s := with(func(s *State) { f.set(s, uint8(n)) })
			if n <= f.last {
				wantCheck(t, f.name+" that is defined", s, api.OK)
			} else {
				wantCheck(t, f.name+" that is not defined", s, api.ErrState)
			}
		}
	}
	wantCheck(t, "Write", with(func(s *State) { s.Write = true }), api.OK)
	wantCheck(t, "Channels of 15", with(func(s *State) { s.Channels = 15 }), api.OK)
	wantCheck(t, "Channels of 16", with(func(s *State) { s.Channels = 16 }), api.ErrState)
	wantCheck(t, "everything zero", State{}, api.OK)
}

func TestCheckLastValues(t *testing.T) {
	last := State{Always, true, Always, 255, 255, Invert, Invert, Invert, Times, 15, Front, Box{64, 64, 64, 64}}
	wantCheck(t, "all at their last values", last, api.OK)
	for _, f := range fields() {
		if f.last == 255 {
			continue
		}
		s := last
		f.set(&s, uint8(f.last+1))
		wantCheck(t, "all but "+f.name+" at their last values", s, api.ErrState)
	}
}

func TestCheckScissor(t *testing.T) {
	wantCheck(t, "no pixels", boxed(0, 0, 0, 0), api.OK)
	wantCheck(t, "all pixels", boxed(0, 0, 64, 64), api.OK)
	wantCheck(t, "the last pixel", boxed(63, 63, 64, 64), api.OK)
	wantCheck(t, "ends at beginnings", boxed(5, 9, 5, 9), api.OK)
	wantCheck(t, "an end at its beginning in x", boxed(5, 9, 5, 20), api.OK)
	wantCheck(t, "an end at its beginning in y", boxed(5, 9, 20, 9), api.OK)
	wantCheck(t, "ends at beginnings at the end", boxed(64, 64, 64, 64), api.OK)
	wantCheck(t, "an end of 65 in x", boxed(0, 0, 65, 64), api.ErrRange)
	wantCheck(t, "an end of 65 in y", boxed(0, 0, 64, 65), api.ErrRange)
	wantCheck(t, "beginning and end of 65 in x", boxed(65, 0, 65, 64), api.ErrRange)
	wantCheck(t, "beginning and end of 65 in y", boxed(0, 65, 64, 65), api.ErrRange)
	wantCheck(t, "a beginning of -1 in x", boxed(-1, 0, 64, 64), api.ErrRange)
	wantCheck(t, "a beginning of -1 in y", boxed(0, -1, 64, 64), api.ErrRange)
	wantCheck(t, "an end less than its beginning in x", boxed(6, 0, 5, 64), api.ErrRange)
	wantCheck(t, "an end less than its beginning in y", boxed(0, 6, 64, 5), api.ErrRange)
	wantCheck(t, "both ends less", boxed(6, 6, 5, 5), api.ErrRange)
	wantCheck(t, "an end less than its beginning, and more in the other", boxed(10, 0, 9, 10), api.ErrRange)
}

func TestCheckScissorOfAll(t *testing.T) {
	list := []int{math.MinInt, math.MinInt + 1, -256, -64, -1, 0, 1, 2, 31, 32, 63, 64, 65, 128, 256, 320, 1 << 32, math.MaxInt}
	place := map[int]int{0: 1, 1: 2, 2: 3, 31: 4, 32: 5, 63: 6, 64: 7}
	good := func(from, to int) bool { return place[from] > 0 && place[to] >= place[from] }
	for _, x0 := range list {
		for _, y0 := range list {
			for _, x1 := range list {
				for _, y1 := range list {
					err := api.ErrRange
					if good(x0, x1) && good(y0, y1) {
						err = api.OK
					}
					wantCheck(t, "any box", boxed(x0, y0, x1, y1), err)
				}
			}
		}
	}
}

// A value that is not defined is named ahead of the Scissor.
func TestCheckOrder(t *testing.T) {
	for _, box := range []Box{{-1, 0, 64, 64}, {0, -1, 64, 64}, {0, 0, 65, 64}, {0, 0, 64, 65}, {6, 0, 5, 64}, {0, 6, 64, 5}} {
		for _, f := range fields() {
			if f.last == 255 {
				continue
			}
			s := plain()
			s.Scissor = box
			f.set(&s, uint8(f.last))
			wantCheck(t, f.name+" that is defined, with a bad Scissor", s, api.ErrRange)
			f.set(&s, uint8(f.last+1))
			wantCheck(t, f.name+" that is not defined, with a bad Scissor", s, api.ErrState)
			f.set(&s, 255)
			wantCheck(t, f.name+" of 255, with a bad Scissor", s, api.ErrState)
		}
	}
	wantCheck(t, "nothing but faults", State{255, true, 255, 255, 255, 255, 255, 255, 255, 255, 255, Box{9, 9, -9, -9}}, api.ErrState)
}

func TestLateByField(t *testing.T) {
	late := map[string]uint8{"Stencil": 7, "Hidden": 0, "Pass": 0, "Blend": 0, "Channels": 15}
	for _, f := range fields() {
		for n := range 256 {
			s := with(func(s *State) { f.set(s, uint8(n)) })
			only, asked := late[f.name]
			wantLate(t, f.name, s, !asked || uint8(n) == only)
		}
	}
	wantLate(t, "Write", with(func(s *State) { s.Write = true }), true)
	for _, box := range []Box{{}, {1, 2, 3, 4}, {-1, 0, 64, 64}, {9, 9, 0, 0}} {
		wantLate(t, "any Scissor", with(func(s *State) { s.Scissor = box }), true)
	}
	other := State{Less, true, Always, 3, 4, Invert, Keep, Keep, Over, 15, Front, Box{1, 2, 3, 4}}
	wantLate(t, "the other fields all different", other, true)
	wantLate(t, "everything zero", State{}, false)
}

// Two fields at once: one that is right does not make up for one that is not.
func TestLateByTwoFields(t *testing.T) {
	sets := []func(s *State){
		func(s *State) { s.Stencil = Equal },
		func(s *State) { s.Pass = Replace },
		func(s *State) { s.Hidden = More },
		func(s *State) { s.Blend = Alpha },
		func(s *State) { s.Channels = 7 },
	}
	for _, a := range sets {
		for _, b := range sets {
			s := plain()
			a(&s)
			b(&s)
			wantLate(t, "two fields", s, false)
		}
	}
}

func TestPut(t *testing.T) {
	wantBytes(t, "Plain", plain(), plainBytes())
	wantBytes(t, "everything zero", State{}, make([]byte, 15))
	wantBytes(t, "all different", State{3, true, 6, 200, 100, 5, 4, 2, 1, 9, 0, Box{11, 12, 13, 14}}, []byte{3, 1, 6, 200, 100, 5, 4, 2, 1, 9, 0, 11, 12, 13, 14})
	wantBytes(t, "all at their last values", State{7, true, 7, 255, 255, 5, 5, 5, 3, 15, 2, Box{64, 64, 64, 64}}, []byte{7, 1, 7, 255, 255, 5, 5, 5, 3, 15, 2, 64, 64, 64, 64})
	for _, f := range fields() {
		for n := range f.last + 1 {
			b := plainBytes()
			b[f.at] = byte(n)
			wantBytes(t, f.name, with(func(s *State) { f.set(s, uint8(n)) }), b)
		}
	}
	b := plainBytes()
	b[1] = 1
	wantBytes(t, "Write", with(func(s *State) { s.Write = true }), b)
}

// What Put makes of a state that is not valid is not promised, but it has to end.
func TestPutOfBadStates(t *testing.T) {
	for _, n := range []int{math.MinInt, -1, 65, 255, 256, 320, math.MaxInt} {
		encoded(boxed(n, n, n, n))
	}
	encoded(State{255, true, 255, 255, 255, 255, 255, 255, 255, 255, 255, Box{9, 9, -9, -9}})
}

func TestPutAppends(t *testing.T) {
	w := &wire.Writer{}
	w.Byte(77)
	first, second := plain(), State{Depth: Less, Write: true, Scissor: Box{1, 2, 3, 4}}
	first.Put(w)
	second.Put(w)
	want := append([]byte{77}, plainBytes()...)
	want = append(want, 1, 1, 0, 0, 0, 0, 0, 0, 0, 0, 0, 1, 2, 3, 4)
	if w.Len() != 1+2*Size || !bytes.Equal(w.Bytes(), want) {
		t.Errorf("P9.2: %x, want %x", w.Bytes(), want)
	}
	r := wire.Read(w.Bytes()[1:])
	if a, b := Take(r), Take(r); a != first || b != second || r.End() != api.OK {
		t.Errorf("P9.2: Take %+v and %+v, error %d", a, b, r.End())
	}
}

func TestTake(t *testing.T) {
	wantTaken(t, "Plain", plainBytes(), plain())
	wantTaken(t, "everything zero", make([]byte, 15), State{})
	wantTaken(t, "all different", []byte{3, 1, 6, 200, 100, 5, 4, 2, 1, 9, 0, 11, 12, 13, 14}, State{3, true, 6, 200, 100, 5, 4, 2, 1, 9, 0, Box{11, 12, 13, 14}})
	wantTaken(t, "all at their last values", []byte{7, 1, 7, 255, 255, 5, 5, 5, 3, 15, 2, 64, 64, 64, 64}, State{7, true, 7, 255, 255, 5, 5, 5, 3, 15, 2, Box{64, 64, 64, 64}})
}

func TestTakeOfEveryByte(t *testing.T) {
	for _, f := range fields() {
		for n := range 256 {
			b := plainBytes()
			b[f.at] = byte(n)
			if n <= f.last {
				wantTaken(t, f.name+" that is defined", b, with(func(s *State) { f.set(s, uint8(n)) }))
			} else {
				wantRefused(t, f.name+" that is not defined", b, api.ErrState)
			}
		}
	}
	for n := range 256 {
		b := plainBytes()
		b[1] = byte(n)
		if n <= 1 {
			wantTaken(t, "Write", b, with(func(s *State) { s.Write = n == 1 }))
		} else {
			wantRefused(t, "a Write that is not defined", b, api.ErrForm)
		}
	}
}

func TestTakeOfEveryScissor(t *testing.T) {
	for from := range 256 {
		for to := range 256 {
			x, y := plainBytes(), plainBytes()
			x[11], x[13] = byte(from), byte(to)
			y[12], y[14] = byte(from), byte(to)
			if from <= to && to <= 64 {
				wantTaken(t, "x", x, boxed(from, 0, to, 64))
				wantTaken(t, "y", y, boxed(0, from, 64, to))
			} else {
				wantRefused(t, "x", x, api.ErrRange)
				wantRefused(t, "y", y, api.ErrRange)
			}
		}
	}
}

func TestTakeOrder(t *testing.T) {
	for _, write := range []byte{2, 3, 128, 254, 255} {
		b := plainBytes()
		b[1] = write
		wantRefused(t, "Write alone", b, api.ErrForm)
		b[0] = 8
		wantRefused(t, "Write ahead of Depth", b, api.ErrForm)
		b[14] = 65
		wantRefused(t, "Write ahead of all", b, api.ErrForm)
		b[0] = 7
		wantRefused(t, "Write ahead of the Scissor", b, api.ErrForm)
	}
	b := plainBytes()
	b[10], b[11] = 3, 65
	wantRefused(t, "Cull ahead of the Scissor", b, api.ErrState)
	wantRefused(t, "all bits set", bytes.Repeat([]byte{255}, Size), api.ErrForm)
}

func TestTakeOfTooFewBytes(t *testing.T) {
	bad := bytes.Repeat([]byte{255}, Size)
	for n := range Size {
		wantRefused(t, "too few bytes", plainBytes()[:n], api.ErrShort)
		wantRefused(t, "too few bytes that are zero", make([]byte, n), api.ErrShort)
		wantRefused(t, "too few bytes of what would not be valid", bad[:n], api.ErrShort)
	}
	wantRefused(t, "nil", nil, api.ErrShort)
	whole := append(plainBytes(), plainBytes()...)
	for n := range Size {
		r := wire.Read(whole[:Size+n])
		Take(r)
		if s := Take(r); s != (State{}) || r.Err() != api.ErrShort {
			t.Errorf("P9.2: %d bytes of a second state: %+v, error %d", n, s, r.Err())
		}
	}
}

// anyState draws a valid state.
func anyState(s *source) State {
	x, y := s.below(65), s.below(65)
	return State{
		Func(s.below(8)), s.below(2) == 1, Func(s.below(8)), uint8(s.below(256)), uint8(s.below(256)),
		Op(s.below(6)), Op(s.below(6)), Op(s.below(6)), Blend(s.below(4)), uint8(s.below(16)), Cull(s.below(3)),
		Box{x, y, x + s.below(65-x), y + s.below(65-y)},
	}
}

func TestTakeWhatWasPut(t *testing.T) {
	s := source(4)
	for range 20000 {
		want := anyState(&s)
		wantCheck(t, "any valid state", want, api.OK)
		b := encoded(want)
		if len(b) != Size {
			t.Fatalf("P9.2: %d bytes, want %d", len(b), Size)
		}
		wantTaken(t, "any valid state", b, want)
		late := want.Stencil == 7 && want.Pass == 0 && want.Hidden == 0 && want.Blend == 0 && want.Channels == 15
		wantLate(t, "any valid state", want, late)
	}
}

// modelError is Take's error, worked out from the bytes.
func modelError(b []byte) api.Errno {
	if b[1] > 1 {
		return api.ErrForm
	}
	for i, last := range []byte{7, 1, 7, 255, 255, 5, 5, 5, 3, 15, 2} {
		if b[i] > last {
			return api.ErrState
		}
	}
	if max(b[11], b[12], b[13], b[14]) > 64 || b[11] > b[13] || b[12] > b[14] {
		return api.ErrRange
	}
	return api.OK
}

// Whatever the bytes are, they are either refused or just those that Put makes of a valid state.
func TestTakeOfAnyBytes(t *testing.T) {
	s := source(31)
	seen := make([]int, 17)
	for range 60000 {
		b := encoded(anyState(&s))
		for range s.below(4) {
			b[s.below(Size)] = byte(s.below([]int{3, 10, 70, 256}[s.below(4)]))
		}
		want := modelError(b)
		seen[want]++
		if want != api.OK {
			wantRefused(t, "any bytes", b, want)
			continue
		}
		r := wire.Read(b)
		got := Take(r)
		if r.End() != api.OK || got.Check() != api.OK || !bytes.Equal(encoded(got), b) {
			t.Errorf("P9.2: %x is taken as %+v, error %d", b, got, r.End())
		}
	}
	for _, e := range []api.Errno{api.OK, api.ErrForm, api.ErrState, api.ErrRange} {
		if seen[e] < 1000 {
			t.Errorf("error %d is drawn only %d times", e, seen[e])
		}
	}
}

func TestTakeAfterAnError(t *testing.T) {
	for _, first := range []api.Errno{api.ErrNil, api.ErrRange, api.ErrShort, api.ErrState, api.ErrNumber} {
		for _, b := range [][]byte{nil, plainBytes(), plainBytes()[:9], bytes.Repeat([]byte{255}, Size)} {
			r := wire.Read(b)
			r.Fail(first)
			if s := Take(r); s != (State{}) || r.Err() != first || r.At() != 0 {
				t.Errorf("P9.2: after error %d: %+v, error %d, %d bytes read", first, s, r.Err(), r.At())
			}
		}
	}
	b := append(plainBytes(), plainBytes()...)
	b[8] = 4
	r := wire.Read(b)
	Take(r)
	if s := Take(r); s != (State{}) || r.Err() != api.ErrState {
		t.Errorf("P9.2: after a state that is not valid: %+v, error %d", s, r.Err())
	}
	r = &wire.Reader{}
	if s := Take(r); s != (State{}) || r.Err() != api.ErrShort {
		t.Errorf("P9.2: of a reader's zero value: %+v, error %d", s, r.Err())
	}
}

func TestNilWritersAndReaders(t *testing.T) {
	plain().Put(nil)
	State{}.Put(nil)
	State{Depth: 255, Scissor: Box{-1, -1, -1, -1}}.Put(nil)
	if s := Take(nil); s != (State{}) {
		t.Errorf("P2: Take of a nil reader is %+v", s)
	}
}

func TestArgumentsAreLeft(t *testing.T) {
	s := source(8)
	for range 2000 {
		one := anyState(&s)
		kept := one
		one.Check()
		one.Late()
		w := &wire.Writer{}
		one.Put(w)
		if one != kept {
			t.Fatalf("P2: %+v was changed to %+v", kept, one)
		}
		b := w.Bytes()
		whole := append(slices.Clone(b), 1, 2, 3)
		r := wire.Read(whole[:Size])
		got := Take(r)
		if !bytes.Equal(whole[:Size], b) || !bytes.Equal(whole[Size:], []byte{1, 2, 3}) {
			t.Fatalf("P2: the bytes %x were changed to %x", b, whole)
		}
		clear(whole)
		one = State{}
		if got != kept || !bytes.Equal(w.Bytes(), b) {
			t.Fatal("P2: an argument is kept")
		}
	}
}

func TestSameArgumentsSameResults(t *testing.T) {
	s := source(15)
	for range 2000 {
		one, other := anyState(&s), anyState(&s)
		err, late, b := one.Check(), one.Late(), encoded(one)
		other.Check()
		other.Late()
		Take(wire.Read(encoded(other)))
		Take(wire.Read([]byte{1, 2, 3}))
		if one.Check() != err || one.Late() != late || !bytes.Equal(encoded(one), b) || Take(wire.Read(b)) != one {
			t.Fatalf("P2: other results of %+v", one)
		}
	}
}
