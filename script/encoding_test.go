package script

import (
	"bytes"
	"encoding/hex"
	"math"
	"reflect"
	"slices"
	"strings"
	"testing"

	"azulejo/api"
	"azulejo/isa"
	"azulejo/mesh"
	"azulejo/state"
	"azulejo/vec"
)

// greatest is a script of which each part has as many bytes as may be.
func greatest() Script {
	long := slices.Repeat(isa.Program{{Op: isa.Mov, Dst: 11, A: 11, B: 11, Imm: math.MinInt16}}, 24)
	most := vec.Vec{api.MaxPlace, -api.MaxPlace, api.MaxPlace, -api.MaxPlace}
	row := vec.Vec{api.MaxQ, -api.MaxQ, api.MaxQ, -api.MaxQ}
	d := Draw{State: plain(), Vertex: 3, Fragment: 3, Kind: mesh.Fan, Indices: slices.Repeat([]int{63}, 96)}
	return Script{
		W: 64, H: 64,
		Matrix:   vec.Mat{row, row, row, row},
		Vertices: slices.Repeat([]Vertex{{Place: most, Colour: most}}, 64),
		Shapers:  slices.Repeat([]isa.Program{long}, 4),
		Painters: slices.Repeat([]isa.Program{long}, 4),
		Draws:    slices.Repeat([]Draw{d}, 32),
	}
}

// chunk is one byte, or some, or a number of variable length.
type chunk struct {
	b      []byte
	number bool
}

func raw(b ...byte) chunk { return chunk{b: b} }

// count is a Count; each byte but the last one has its highest bit set.
func count(n uint64) chunk {
	b := []byte{byte(n & 127)}
	for n >>= 7; n > 0; n >>= 7 {
		b[len(b)-1] |= 128
		b = append(b, byte(n&127))
	}
	return chunk{b, true}
}

// integer is an Int: 0, -1, 1, -2, 2 and so on are counted up.
func integer(n int) chunk { return count(uint64(n)<<1 ^ uint64(n>>63)) }

// modelChunks follows the chapter from part to part; it encodes scripts that are not valid, too.
func modelChunks(s Script) []chunk {
	l := []chunk{raw('A', 'Z'), count(uint64(s.W)), count(uint64(s.H))}
	for i := range 16 {
		l = append(l, integer(s.Matrix[i/4][i%4]))
	}
	l = append(l, count(uint64(len(s.Vertices))))
	for _, v := range s.Vertices {
		for i := range 8 {
			l = append(l, integer([]int{v.Place[i%4], v.Colour[i%4]}[i/4]))
		}
	}
	l = append(l, modelPrograms(s.Shapers)...)
	l = append(l, modelPrograms(s.Painters)...)
	l = append(l, count(uint64(len(s.Draws))))
	for _, d := range s.Draws {
		l = append(l, modelDraw(d)...)
	}
	return l
}

func modelPrograms(all []isa.Program) []chunk {
	l := []chunk{count(uint64(len(all)))}
	for _, p := range all {
		l = append(l, count(uint64(len(p))))
		for _, in := range p {
			l = append(l, raw(byte(in.Op), in.Dst, in.A, in.B), integer(int(in.Imm)))
		}
	}
	return l
}

func modelDraw(d Draw) []chunk {
	write := byte(0)
	if d.Write {
		write = 1
	}
	l := []chunk{
		raw(byte(d.Depth), write, byte(d.Stencil), d.Ref, d.Mask, byte(d.Fail), byte(d.Hidden), byte(d.Pass)),
		raw(byte(d.Blend), d.Channels, byte(d.Cull)),
		raw(byte(d.Scissor.X0), byte(d.Scissor.Y0), byte(d.Scissor.X1), byte(d.Scissor.Y1)),
	}
	if c := d.Clear; d.Clears {
		return append(l, raw(3), raw(c.Colour[:]...), raw(c.Stencil, c.Wanted), count(uint64(c.Depth)))
	}
	l = append(l, raw(byte(d.Kind)), count(uint64(d.Vertex)), count(uint64(d.Fragment)), count(uint64(len(d.Indices))))
	for _, i := range d.Indices {
		l = append(l, count(uint64(i)))
	}
	return l
}

func joined(l []chunk) []byte {
	var b []byte
	for _, c := range l {
		b = append(b, c.b...)
	}
	return b
}

func modelBytes(s Script) []byte { return joined(modelChunks(s)) }

// anyScript draws a valid script; fields that do not belong to a draw are zero.
func anyScript(r *source) Script {
	s := Script{W: 1 + r.below(64), H: 1 + r.below(64)}
	for i := range 16 {
		s.Matrix[i/4][i%4] = r.within(api.MaxQ)
	}
	for range r.below([]int{3, 10, 65}[r.below(3)]) {
		var v Vertex
		for i := range 4 {
			v.Place[i], v.Colour[i] = r.within(api.MaxPlace), r.within(api.MaxPlace)
		}
		s.Vertices = append(s.Vertices, v)
	}
	s.Shapers, s.Painters = anyPrograms(r, false), anyPrograms(r, true)
	for range r.below([]int{3, 8, 33}[r.below(3)]) {
		s.Draws = append(s.Draws, anyDraw(r, s))
	}
	return s
}

func anyPrograms(r *source, discards bool) []isa.Program {
	var all []isa.Program
	for range r.below(5) {
		all = append(all, anyProgram(r, discards))
	}
	return all
}

// anyProgram grows from its end, because a Loop and a Skip are valid only if something follows.
func anyProgram(r *source, discards bool) isa.Program {
	var p isa.Program
	for range r.below(40) {
		in := isa.Instr{
			Op:  isa.Op(r.below(int(isa.Ops))),
			Dst: uint8(r.below(12)), A: uint8(r.below(12)), B: uint8(r.below(12)),
			Imm: int16(r.within(math.MaxInt16)),
		}
		if in.Op == isa.Skip || in.Op == isa.Loop {
			in.Imm = int16(1 + r.below(8))
		}
		if longer := append(isa.Program{in}, p...); longer.Check(discards) == api.OK {
			p = longer
		}
	}
	return p
}

func anyState(r *source) state.State {
	x, y := r.below(65), r.below(65)
	return state.State{
		Depth: state.Func(r.below(8)), Write: r.below(2) == 1,
		Stencil: state.Func(r.below(8)), Ref: uint8(r.below(256)), Mask: uint8(r.below(256)),
		Fail: state.Op(r.below(6)), Hidden: state.Op(r.below(6)), Pass: state.Op(r.below(6)),
		Blend: state.Blend(r.below(4)), Channels: uint8(r.below(16)), Cull: state.Cull(r.below(3)),
		Scissor: state.Box{X0: x, Y0: y, X1: x + r.below(65-x), Y1: y + r.below(65-y)},
	}
}

func anyDraw(r *source, s Script) Draw {
	d := Draw{State: anyState(r)}
	if len(s.Shapers) == 0 || len(s.Painters) == 0 || r.below(3) == 0 {
		d.Clears = true
		d.Clear = Clear{Depth: r.below(65536), Stencil: uint8(r.below(256)), Wanted: uint8(r.below(8))}
		for i := range 4 {
			d.Clear.Colour[i] = uint8(r.below(256))
		}
		return d
	}
	d.Vertex, d.Fragment, d.Kind = r.below(len(s.Shapers)), r.below(len(s.Painters)), mesh.Kind(r.below(3))
	if len(s.Vertices) == 0 {
		return d
	}
	n := r.below([]int{9, 97}[r.below(2)])
	if d.Kind == mesh.List || n < 3 {
		n -= n % 3
	}
	for range n {
		d.Indices = append(d.Indices, r.below(len(s.Vertices)))
	}
	return d
}

// copied shares no memory with s, at least none that alter or ignored changes.
func copied(s Script) Script {
	s.Vertices, s.Draws = slices.Clone(s.Vertices), slices.Clone(s.Draws)
	s.Shapers, s.Painters = slices.Clone(s.Shapers), slices.Clone(s.Painters)
	return s
}

// alter changes one part of a script, which stays valid; now and then it becomes what it was.
func alter(r *source, s *Script) {
	switch r.below(8) {
	case 0:
		s.W = 1 + r.below(64)
	case 1:
		s.H = 1 + r.below(64)
	case 2:
		s.Matrix[r.below(4)][r.below(4)] = r.within(2)
	case 3:
		if len(s.Vertices) > 0 {
			s.Vertices[r.below(len(s.Vertices))].Colour[r.below(4)] = r.within(2)
		}
	case 4:
		if len(s.Shapers) > 0 {
			s.Shapers[r.below(len(s.Shapers))] = nil
		}
	case 5:
		if len(s.Painters) > 0 {
			s.Painters[r.below(len(s.Painters))] = nil
		}
	case 6:
		if len(s.Draws) > 0 {
			s.Draws[r.below(len(s.Draws))].Channels = uint8(r.below(16))
		}
	case 7:
		if len(s.Draws) > 0 {
			s.Draws[r.below(len(s.Draws))] = anyDraw(r, *s)
		}
	}
}

// fromHex reads bytes that are written in hexadecimal, with spaces and line ends between them.
func fromHex(t *testing.T, text string) []byte {
	t.Helper()
	b, err := hex.DecodeString(strings.Join(strings.Fields(text), ""))
	if err != nil {
		t.Fatal(err)
	}
	return b
}

// wantBytes holds both directions against the same bytes.
func wantBytes(t *testing.T, what string, s Script, b []byte) {
	t.Helper()
	got, err := s.Put()
	if err != api.OK || !bytes.Equal(got, b) {
		t.Errorf("P11.2: %s: Put %x, error %d, want %x: %v", what, got, err, b, s)
	}
	wantTaken(t, what, b, s)
}

func wantTaken(t *testing.T, what string, b []byte, s Script) {
	t.Helper()
	got, err := Take(b)
	if err != api.OK || shown(got) != shown(s) || !Same(got, s) {
		t.Errorf("P11.2: %s: Take %v, error %d, want %v", what, got, err, s)
	}
}

func isZero(s Script) bool { return reflect.DeepEqual(s, Script{}) }

func wantRefused(t *testing.T, what string, b []byte, err api.Errno) {
	t.Helper()
	if s, e := Take(b); e != err || !isZero(s) {
		t.Errorf("P11.2: %s: Take of %x: error %d, want %d: %v", what, b, e, err, s)
	}
}

// wantEither is for bytes of which nothing is known: they are an error, or just what Put makes.
func wantEither(t *testing.T, what string, b []byte) api.Errno {
	t.Helper()
	s, err := Take(b)
	if err != api.OK {
		if !isZero(s) {
			t.Errorf("P11.2: %s: Take of %x: error %d and %v", what, b, err, s)
		}
		return err
	}
	if again, e := s.Put(); e != api.OK || !bytes.Equal(again, b) || s.Check() != api.OK {
		t.Errorf("P11.2: %s: Take of %x: Put makes %x of it, error %d: %v", what, b, again, e, s)
	}
	return api.OK
}

func TestChapterExample(t *testing.T) {
	b := append([]byte{'A', 'Z', 8, 8}, make([]byte, 20)...)
	wantBytes(t, "the example", Script{W: 8, H: 8}, b)
	if len(b) != 24 {
		t.Errorf("P11.2: %d bytes, want 24", len(b))
	}
}

func TestBytesOfNumbers(t *testing.T) {
	s := Script{W: 64, H: 1, Matrix: vec.Mat{{65536, -1, 1, 63}, {-64, 64, -65, 0}, {api.MaxQ, -api.MaxQ}, {0, 0, 0, 150}}}
	s.Vertices = []Vertex{{Place: vec.Vec{-1, 2, -3, 65536}, Colour: vec.Vec{api.MaxPlace, -api.MaxPlace, 0, 64}}, {Colour: vec.Vec{3: 1}}}
	wantBytes(t, "numbers", s, fromHex(t, `
		41 5a 40 01
		80 80 08 01 02 7e  7f 80 01 81 01 00  fe ff ff ff 0f fd ff ff ff 0f 00 00  00 00 00 ac 02
		02 01 04 05 80 80 08  80 80 80 04 ff ff ff 03 00 80 01
		00 00 00 00  00 00 00 02
		00 00 00`))
}

func TestBytesOfPrograms(t *testing.T) {
	s := Script{W: 3, H: 5, Shapers: []isa.Program{{}, {{Op: isa.Mat, Dst: 1, A: 4, B: 2, Imm: -1}, {}}}}
	s.Painters = []isa.Program{{{Op: isa.Discard, Dst: 3, A: 2, B: 1, Imm: 300}}}
	wantBytes(t, "programs", s, fromHex(t, `
		41 5a 03 05  00 00 00 00  00 00 00 00  00 00 00 00  00 00 00 00
		00
		02 00 02 0e 01 04 02 01 00 00 00 00 00
		01 01 0d 03 02 01 d8 04
		00`))
}

func TestBytesOfDraws(t *testing.T) {
	s := drawing(Draw{})
	s.Draws = []Draw{
		{State: plain(), Clears: true, Clear: Clear{Colour: [4]uint8{17, 18, 19, 200}, Depth: 65535, Stencil: 21, Wanted: 6}},
		{State: other(), Vertex: 1, Fragment: 2, Kind: mesh.Strip, Indices: []int{3, 2, 1, 0}},
		{State: plain(), Kind: mesh.List},
		{State: other(), Clears: true, Clear: Clear{Depth: 127}},
		{State: plain(), Fragment: 1, Kind: mesh.Fan, Indices: []int{1, 1, 2}},
	}
	wantBytes(t, "draws", s, fromHex(t, `
		41 5a 08 08  00 00 00 00  00 00 00 00  00 00 00 00  00 00 00 00
		04 00 00 00 00 00 00 00 00  00 00 00 00 00 00 00 00  00 00 00 00 00 00 00 00  00 00 00 00 00 00 00 00
		02 00 00
		03 00 00 00
		05
		07 00 07 00 00 00 00 00 00 0f 00 00 00 40 40  03  11 12 13 c8 15 06 ff ff 03
		01 01 02 03 04 05 01 02 03 07 02 01 02 03 04  01  01 02 04 03 02 01 00
		07 00 07 00 00 00 00 00 00 0f 00 00 00 40 40  00  00 00 00
		01 01 02 03 04 05 01 02 03 07 02 01 02 03 04  03  00 00 00 00 00 00 7f
		07 00 07 00 00 00 00 00 00 0f 00 00 00 40 40  02  00 01 03 01 01 02`))
}

func TestPutRefuses(t *testing.T) {
	for _, f := range faults() {
		if b, err := with(f.change).Put(); err != f.err || len(b) > 0 {
			t.Errorf("P11.2: %s: Put %x, error %d, want error %d", f.name, b, err, f.err)
		}
		for _, g := range faults() {
			s := with(f.change, g.change)
			if b, err := s.Put(); err != s.Check() || err == api.OK || len(b) > 0 {
				t.Errorf("P11.2: %s and %s: Put %x, error %d, Check error %d", f.name, g.name, b, err, s.Check())
			}
		}
	}
	if b, err := (Script{}).Put(); err != api.ErrSize || len(b) > 0 {
		t.Errorf("P11.2: everything zero: Put %x, error %d", b, err)
	}
}

func TestTakeWhatWasPut(t *testing.T) {
	wantBytes(t, "the whole script", whole(), modelBytes(whole()))
	r := source(1)
	for range 2000 {
		s := anyScript(&r)
		wantCheck(t, "any script", s, api.OK)
		wantBytes(t, "any script", s, modelBytes(s))
	}
	for _, c := range changes() {
		if s := with(c.make); s.Check() == api.OK {
			wantBytes(t, c.name, zeroed(s), modelBytes(s))
		}
	}
}

// zeroed returns the script without the fields that do not belong to its draws.
func zeroed(s Script) Script {
	for i, d := range s.Draws {
		if d.Clears {
			s.Draws[i] = Draw{State: d.State, Clears: true, Clear: d.Clear}
		} else {
			s.Draws[i].Clear = Clear{}
		}
	}
	return s
}

func TestIgnoredFieldsAreNotEncoded(t *testing.T) {
	want := modelBytes(whole())
	for n := range 300 {
		b, err := ignored(whole(), n).Put()
		if err != api.OK || !bytes.Equal(b, want) {
			t.Errorf("P11.2: Put %x, error %d, want %x", b, err, want)
		}
		wantTaken(t, "without other fields", b, whole())
	}
}

func TestGreatestScript(t *testing.T) {
	b, err := greatest().Put()
	// By parts: the start and sides, the matrix, vertices, shapers and painters, draws.
	most := 4 + 16*5 + (1 + 64*8*4) + 2*(1+4*(1+24*7)) + (1 + 32*(15+4+96))
	if err != api.OK || len(b) != most || most > 20000 {
		t.Errorf("P11.2: %d bytes, error %d, want %d", len(b), err, most)
	}
	wantBytes(t, "the greatest script", greatest(), modelBytes(greatest()))
}

func TestTakeOfTooManyBytes(t *testing.T) {
	whole := modelBytes(whole())
	for _, b := range [][]byte{whole, nil, []byte("A"), []byte("ZA"), []byte("AZ"), modelBytes(greatest())} {
		for _, n := range []int{20001, 20002, 40000, 1 << 20} {
			wantRefused(t, "too many bytes", append(slices.Clone(b), make([]byte, n-len(b))...), api.ErrSize)
		}
	}
	wantRefused(t, "20000 bytes, with a script", append(slices.Clone(whole), make([]byte, 20000-len(whole))...), api.ErrRest)
	wantRefused(t, "20000 bytes, without AZ", make([]byte, 20000), api.ErrForm)
	room := append(make([]byte, 0, 30000), whole...)
	wantTaken(t, "spare capacity", room, with())
}

func TestTakeWithoutStart(t *testing.T) {
	wantRefused(t, "nil", nil, api.ErrForm)
	wantRefused(t, "no bytes", []byte{}, api.ErrForm)
	wantRefused(t, "A", []byte("A"), api.ErrForm)
	wantRefused(t, "Z", []byte("Z"), api.ErrForm)
	wantRefused(t, "AZ", []byte("AZ"), api.ErrShort)
	for n := range 256 {
		for at := range 2 {
			b := modelBytes(whole())
			if b[at] == byte(n) {
				continue
			}
			b[at] = byte(n)
			wantRefused(t, "another start", b, api.ErrForm)
			wantRefused(t, "another start alone", b[:2], api.ErrForm)
		}
	}
	wantRefused(t, "small letters", append([]byte("az"), modelBytes(whole())[2:]...), api.ErrForm)
	wantRefused(t, "exchanged", append([]byte("ZA"), modelBytes(whole())[2:]...), api.ErrForm)
	wantRefused(t, "without the start", modelBytes(whole())[2:], api.ErrForm)
}

func TestTakeOfCutBytes(t *testing.T) {
	r := source(9)
	scripts := []Script{{W: 8, H: 8}, whole(), greatest()}
	for range 40 {
		scripts = append(scripts, anyScript(&r))
	}
	for _, s := range scripts {
		b := modelBytes(s)
		for n := range b {
			if n < 2 {
				wantRefused(t, "cut in the start", b[:n], api.ErrForm)
			} else {
				wantRefused(t, "cut", b[:n], api.ErrShort)
			}
		}
	}
}

func TestTakeWithBytesBehind(t *testing.T) {
	for _, s := range []Script{{W: 8, H: 8}, whole(), greatest()} {
		b := modelBytes(s)
		for n := range 256 {
			wantRefused(t, "a byte behind", append(slices.Clone(b), byte(n)), api.ErrRest)
			wantRefused(t, "two bytes behind", append(slices.Clone(b), 0, byte(n)), api.ErrRest)
		}
		wantRefused(t, "twice", append(slices.Clone(b), b...), api.ErrRest)
	}
}

func TestTakeWithOneByteChanged(t *testing.T) {
	taken := 0
	b := modelBytes(whole())
	for at := range b {
		for n := range 256 {
			changed := slices.Clone(b)
			changed[at] = byte(n)
			if wantEither(t, "one byte changed", changed) != api.OK {
				continue
			}
			taken++
			if s, _ := Take(changed); Same(s, whole()) != (b[at] == byte(n)) {
				t.Errorf("P11.2: byte %d changed to %d: Same is %v", at, n, Same(s, whole()))
			}
		}
	}
	if taken < 10000 {
		t.Errorf("only %d of %d are scripts", taken, 256*len(b))
	}
}

// longer returns the number in one byte more than need be, and in more and more.
func longer(c chunk) [][]byte {
	var all [][]byte
	b := slices.Clone(c.b)
	for range 12 {
		b[len(b)-1] |= 128
		b = append(b, 0)
		all = append(all, slices.Clone(b))
	}
	return all
}

func TestTakeOfLongNumbers(t *testing.T) {
	for _, s := range []Script{{W: 8, H: 8}, whole(), ignored(whole(), 3)} {
		l := modelChunks(s)
		for i, c := range l {
			if !c.number {
				continue
			}
			for _, b := range longer(c) {
				changed := slices.Clone(l)
				changed[i].b = b
				wantRefused(t, "a long number", joined(changed), api.ErrForm)
			}
		}
	}
}

// The greatest numbers of 63, 64 and more bits stand in for each number; there is none that may be so great.
func TestTakeOfGreatNumbers(t *testing.T) {
	for _, great := range []chunk{count(math.MaxInt64 - 1), count(math.MaxInt64), count(math.MaxInt64 + 1), count(math.MaxUint64 - 1), count(math.MaxUint64), raw(bytes.Repeat([]byte{255}, 300)...)} {
		for _, s := range []Script{{W: 8, H: 8}, whole()} {
			l := modelChunks(s)
			for i, c := range l {
				if !c.number {
					continue
				}
				changed := slices.Clone(l)
				changed[i].b = great.b
				if wantEither(t, "a great number", joined(changed)) == api.OK {
					t.Errorf("P11.2: number %d may be %x", i, great.b)
				}
			}
		}
	}
}

func TestTakeOfManyItems(t *testing.T) {
	for n := range 100 {
		s := Script{W: 8, H: 8, Vertices: make([]Vertex, n)}
		wantCounted(t, "vertices", s, n, 64)
		wantCounted(t, "shapers", Script{W: 8, H: 8, Shapers: make([]isa.Program, n)}, n, 4)
		wantCounted(t, "painters", Script{W: 8, H: 8, Painters: make([]isa.Program, n)}, n, 4)
		wantCounted(t, "instructions of a shaper", Script{W: 8, H: 8, Shapers: []isa.Program{make(isa.Program, n)}}, n, 24)
		wantCounted(t, "instructions of a painter", Script{W: 8, H: 8, Painters: []isa.Program{make(isa.Program, n)}}, n, 24)
		wantCounted(t, "draws", Script{W: 8, H: 8, Draws: slices.Repeat([]Draw{{Clears: true}}, n)}, n, 32)
		if n >= 3 {
			wantCounted(t, "indices", drawing(Draw{Kind: mesh.Fan, Indices: make([]int, n)}), n, 96)
		}
	}
}

func wantCounted(t *testing.T, what string, s Script, n, most int) {
	t.Helper()
	if n <= most {
		wantTaken(t, what, modelBytes(s), s)
	} else {
		wantRefused(t, "too many "+what, modelBytes(s), api.ErrMany)
	}
}

// What could be encoded but for Check is refused with the error of Check.
func TestTakeOfFaults(t *testing.T) {
	for _, f := range faults() {
		wantRefused(t, f.name, modelBytes(with(f.change)), f.err)
		for _, g := range faults() {
			if wantEither(t, f.name+" and "+g.name, modelBytes(with(f.change, g.change))) == api.OK {
				t.Errorf("P11.2: %s and %s: no error", f.name, g.name)
			}
		}
	}
	great := []int{1 << 20, 1 << 40, math.MaxInt - 1, math.MaxInt}
	for _, n := range append(upTo(300), great...) {
		s := with(func(s *Script) { s.W = n })
		wantRefusedAs(t, "W", s)
		s = with(func(s *Script) { s.H = n })
		wantRefusedAs(t, "H", s)
		s = with(func(s *Script) { s.Draws[0].Clear.Wanted = uint8(n) })
		wantRefusedAs(t, "Wanted", s)
		s = with(func(s *Script) { s.Draws[0].Clear.Depth = n })
		wantRefusedAs(t, "depth", s)
		s = with(func(s *Script) { s.Draws[0].Clear.Depth = 65500 + n%300 })
		wantRefusedAs(t, "depth", s)
		s = with(func(s *Script) { s.Draws[1].Vertex = n })
		wantRefusedAs(t, "shaper", s)
		s = with(func(s *Script) { s.Draws[1].Fragment = n })
		wantRefusedAs(t, "painter", s)
		s = with(func(s *Script) { s.Draws[1].Indices[5] = n })
		wantRefusedAs(t, "index", s)
	}
	for k := 4; k < 256; k++ {
		wantRefused(t, "kind", modelBytes(with(func(s *Script) { s.Draws[1].Kind = mesh.Kind(k) })), api.ErrKind)
	}
	for _, most := range []int{api.MaxPlace, api.MaxQ} {
		for _, l := range limits(most) {
			wantRefusedAs(t, "matrix", with(func(s *Script) { s.Matrix[2][1] = l.n }))
			wantRefusedAs(t, "place", with(func(s *Script) { s.Vertices[2].Place[1] = l.n }))
			wantRefusedAs(t, "colour", with(func(s *Script) { s.Vertices[1].Colour[2] = l.n }))
		}
	}
}

// upTo returns the numbers from 0 to n - 1.
func upTo(n int) []int {
	var l []int
	for i := range n {
		l = append(l, i)
	}
	return l
}

// wantRefusedAs is for a script that may be valid or not.
func wantRefusedAs(t *testing.T, what string, s Script) {
	t.Helper()
	if err := s.Check(); err != api.OK {
		wantRefused(t, what, modelBytes(s), err)
	} else {
		wantTaken(t, what, modelBytes(s), s)
	}
}

func TestTakeOfStates(t *testing.T) {
	s := drawing(Draw{State: plain(), Clears: true})
	b := modelBytes(s)
	at := len(b) - 23 // the state, the 3, six bytes, and the depth
	for i := range state.Size {
		for n := range 256 {
			changed := slices.Clone(b)
			changed[at+i] = byte(n)
			wantEither(t, "a state", changed)
		}
	}
	b[at+1] = 2
	wantRefused(t, "a Write of 2", b, api.ErrForm)
	b[at] = 8
	wantRefused(t, "a Write of 2 and a Depth of 8", b, api.ErrForm)
	b[at+1] = 1
	wantRefused(t, "a Depth of 8", b, api.ErrState)
}

func TestTakeOfDiscards(t *testing.T) {
	p := []isa.Program{{{Op: isa.Discard}}}
	wantTaken(t, "a Discard in a painter", modelBytes(Script{W: 8, H: 8, Painters: p}), Script{W: 8, H: 8, Painters: p})
	wantRefused(t, "a Discard in a shaper", modelBytes(Script{W: 8, H: 8, Shapers: p}), api.ErrKind)
}

// Whatever the bytes are, they are either refused or just those that Put makes.
func TestTakeOfAnyBytes(t *testing.T) {
	r := source(77)
	seen := make([]int, 17)
	for range 20000 {
		b := modelBytes(anyScript(&r))
		for range 1 + r.below(3) {
			at := r.below(len(b))
			switch r.below(4) {
			case 0:
				b = slices.Delete(b, at, at+1)
			case 1:
				b = slices.Insert(b, at, byte(r.below(256)))
			default:
				b[at] = byte(r.below([]int{5, 70, 256}[r.below(3)]))
			}
		}
		seen[wantEither(t, "any bytes", b)]++
	}
	for _, err := range []api.Errno{api.OK, api.ErrRange, api.ErrShort, api.ErrForm, api.ErrKind, api.ErrMany, api.ErrState, api.ErrRest} {
		if seen[err] < 20 {
			t.Errorf("error %d is drawn only %d times: %v", err, seen[err], seen)
		}
	}
	for range 20000 {
		b := []byte("AZ")
		for range r.below(200) {
			b = append(b, byte(r.below([]int{4, 256}[r.below(2)])))
		}
		wantEither(t, "drawn bytes", b)
	}
}

// roomy returns a copy of a list with spare capacity, all of which has some value.
func roomy[T any](l []T, spare T) []T {
	wide := append(slices.Clone(l), spare, spare, spare)
	return wide[:len(l)]
}

// roomyScript has spare capacity in each list.
func roomyScript() Script {
	s := whole()
	s.Vertices = roomy(s.Vertices, Vertex{Place: vec.Vec{1, 2, 3, 4}})
	for i, p := range s.Shapers {
		s.Shapers[i] = roomy(p, isa.Instr{Dst: 9})
	}
	for i, p := range s.Painters {
		s.Painters[i] = roomy(p, isa.Instr{Dst: 8})
	}
	s.Shapers = roomy(s.Shapers, isa.Program{{A: 7}})
	s.Painters = roomy(s.Painters, isa.Program{{A: 6}})
	for i, d := range s.Draws {
		s.Draws[i].Indices = roomy(d.Indices, -9)
	}
	s.Draws = roomy(s.Draws, Draw{Vertex: 5})
	return s
}

// widened returns the script with each list up to its capacity.
func widened(s Script) Script {
	s = copied(s)
	s.Vertices, s.Shapers, s.Painters, s.Draws = wide(s.Vertices), wide(s.Shapers), wide(s.Painters), wide(s.Draws)
	for i, p := range s.Shapers {
		s.Shapers[i] = wide(p)
	}
	for i, p := range s.Painters {
		s.Painters[i] = wide(p)
	}
	for i, d := range s.Draws {
		s.Draws[i].Indices = wide(d.Indices)
	}
	return s
}

func wide[T any](l []T) []T { return l[:cap(l)] }

func TestArgumentsAreLeft(t *testing.T) {
	s, o := roomyScript(), roomyScript()
	bad := roomyScript()
	bad.Draws[4].Clear.Wanted = 8
	scripts := []Script{s, o, bad}
	var before []string
	for _, x := range scripts {
		before = append(before, shown(x), shown(widened(x)))
	}
	for _, x := range scripts {
		x.Check()
		x.Put()
		Same(x, o)
		Same(o, x)
	}
	for i, x := range scripts {
		if shown(x) != before[2*i] || shown(widened(x)) != before[2*i+1] {
			t.Errorf("P2: %s was changed to %s", before[2*i], shown(x))
		}
	}
	for _, x := range []Script{whole(), greatest(), bad} {
		b := roomy(modelBytes(x), 99)
		want := bytes.Clone(wide(b))
		Take(b)
		if !bytes.Equal(wide(b), want) {
			t.Errorf("P2: Take changed %x to %x", want, wide(b))
		}
	}
}

// spoil changes all memory that a script refers to.
func spoil(s Script) {
	for _, p := range slices.Concat(s.Shapers, s.Painters) {
		clear(wide(p))
	}
	for _, d := range s.Draws {
		clear(wide(d.Indices))
	}
	clear(wide(s.Vertices))
	clear(wide(s.Shapers))
	clear(wide(s.Painters))
	clear(wide(s.Draws))
}

func TestNothingIsKept(t *testing.T) {
	want := modelBytes(whole())
	s := whole()
	first, _ := s.Put()
	second, _ := s.Put()
	clear(wide(first))
	spoil(s)
	if !bytes.Equal(second, want) {
		t.Errorf("P2: Put keeps its script, or two results share memory: %x, want %x", second, want)
	}
	b := modelBytes(whole())
	one, _ := Take(b)
	two, _ := Take(b)
	clear(b)
	if shown(one) != shown(whole()) {
		t.Errorf("P2: Take keeps its bytes: %v", one)
	}
	spoil(one)
	if shown(two) != shown(whole()) {
		t.Errorf("P2: two results of Take share memory: %v", two)
	}
}

// No list of what Take answers grows into another one.
func TestListsAreApart(t *testing.T) {
	s, _ := Take(modelBytes(whole()))
	grow := func(p isa.Program) { _ = append(p, isa.Instr{Op: isa.Ops, Dst: 99}, isa.Instr{Op: isa.Ops, Dst: 98}) }
	for i := range s.Shapers {
		grow(s.Shapers[i])
	}
	for i := range s.Painters {
		grow(s.Painters[i])
	}
	for _, d := range s.Draws {
		_ = append(d.Indices, -7, -8, -9)
	}
	if shown(s) != shown(whole()) {
		t.Errorf("P2: lists share memory: %v", s)
	}
}

func TestSameArgumentsSameResults(t *testing.T) {
	r := source(15)
	for range 300 {
		one, two := anyScript(&r), anyScript(&r)
		err, same := one.Check(), Same(one, two)
		b, _ := one.Put()
		two.Check()
		two.Put()
		Take(modelBytes(two))
		Take([]byte("AZ"))
		with(faults()[r.below(20)].change).Put()
		again, _ := one.Put()
		taken, _ := Take(b)
		if one.Check() != err || Same(one, two) != same || !bytes.Equal(again, b) || shown(taken) != shown(one) {
			t.Fatalf("P2: other results of %v", one)
		}
	}
}
