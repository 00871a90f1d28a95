package tri

import (
	"bytes"
	"math"
	"testing"

	"azulejo/api"
	"azulejo/setup"
	"azulejo/wire"
)

// bytesModel reads as the chapters of wire and tri say.
type bytesModel struct {
	b   []byte
	at  int
	err api.Errno
}

func (m *bytesModel) fail(e api.Errno) {
	if m.err == api.OK {
		m.err = e
	}
}

func (m *bytesModel) number() (n uint64) {
	if m.err != api.OK {
		return 0
	}
	first := m.at
	for m.at < len(m.b) {
		c := m.b[m.at]
		if k := m.at - first; k < 10 {
			n |= uint64(c&127) << (7 * k)
		}
		m.at++
		if c < 128 {
			if !bytes.Equal(count(n), m.b[first:m.at]) {
				m.fail(api.ErrForm)
			}
			return n
		}
	}
	m.fail(api.ErrShort)
	return 0
}

func (m *bytesModel) change() int {
	n := m.number()
	d := int(n>>1) ^ -int(n&1)
	if d < -1048576 || d > 1048576 {
		m.fail(api.ErrRange)
	}
	return d
}

// record returns the record; it counts only if there is no error.
func (m *bytesModel) record() (x Record) {
	head := m.number()
	if head > 63 {
		m.fail(api.ErrMany)
		return Record{}
	}
	x = Record{Draw: int(head / 2), Some: head%2 == 1}
	if x.Some {
		all := places(&x.Tri)
		for i, p := range all {
			*p.at = m.change()
			if i >= 8 {
				*p.at += *all[i-8].at
			}
		}
	}
	m.fail(modelCheck(x))
	if m.err != api.OK {
		return Record{}
	}
	return x
}

// wantTake holds Take of some bytes against the model, and what it decodes against Put.
func wantTake(t *testing.T, what string, b []byte) api.Errno {
	t.Helper()
	m := bytesModel{b: b}
	want := m.record()
	kept := bytes.Clone(b)
	r := wire.Read(b)
	got := Take(r)
	if got != want || r.Err() != m.err || r.At() != m.at {
		t.Errorf("P14.1: %s: Take of % x is %v, %d at %d, want %v, %d at %d", what, b, got, r.Err(), r.At(), want, m.err, m.at)
	}
	if !bytes.Equal(b, kept) {
		t.Errorf("R6: Take changed % x to % x", kept, b)
	}
	if r.Err() != api.OK {
		return r.Err()
	}
	w := &wire.Writer{}
	if err := got.Put(w); err != api.OK || !bytes.Equal(w.Bytes(), b[:r.At()]) {
		t.Errorf("P14.1: %s: % x is %v, of which Put makes % x, %d", what, b[:r.At()], got, w.Bytes(), err)
	}
	return api.OK
}

func wantTakeError(t *testing.T, what string, b []byte, want api.Errno) {
	t.Helper()
	if err := wantTake(t, what, b); err != want {
		t.Errorf("P14.1: %s: Take of % x ends with %d, want %d", what, b, err, want)
	}
}

func TestTakeByHand(t *testing.T) {
	wants := []struct {
		text string
		x    Record
	}{
		{"06", Record{Draw: 3}},
		{"00", Record{}},
		{"3e", Record{Draw: 31}},
		{"0b 00 00 00 02 00 00 00 00 80 01 00 00 02 00 00 00 00 7f 80 01 00 02 00 00 00 00", Record{5, true, small()}},
		{"13 14 28 d0 0f 02 00 80 80 08 06 80 01 d4 07 77 01 fe 0f 80 80 08 ff ff 07 80 01 7f" +
			" bf 0c c8 0b b0 f0 07 97 08 fb ff 07 02 7f 7e", Record{9, true, sound()}},
	}
	for _, want := range wants {
		r := wire.Read(unhex(want.text))
		if got := Take(r); got != want.x || r.End() != api.OK {
			t.Errorf("P14.1: Take of %s is %v, %d, want %v", want.text, got, r.End(), want.x)
		}
	}
}

// What Put wrote is taken back, one record behind the other, and then the reader stands at the end.
func TestTakeOfPut(t *testing.T) {
	var s source = 5
	w := &wire.Writer{}
	w.Byte(77)
	var all []Record
	for range 5000 {
		all = append(all, s.record())
	}
	all = append(all, Record{31, true, widest()}, Record{0, true, small()}, Record{Draw: 31})
	ends := []int{}
	for _, x := range all {
		x.Put(w)
		ends = append(ends, w.Len())
	}
	w.Byte(78)
	r := wire.Read(w.Bytes())
	r.Byte()
	for i, x := range all {
		if got := Take(r); got != x || r.Err() != api.OK || r.At() != ends[i] {
			t.Fatalf("P14.1: record %d is %v, %d at %d, want %v at %d", i, got, r.Err(), r.At(), x, ends[i])
		}
	}
	if r.End() != api.ErrRest || r.Byte() != 78 {
		t.Error("P14.1: the byte behind the records is not left")
	}
}

func TestTakeOfReadersThatFail(t *testing.T) {
	if got := Take(nil); got != (Record{}) {
		t.Errorf("R7: Take of nil is %v", got)
	}
	for _, b := range [][]byte{nil, {6}, modelBytes(Record{9, true, sound()})} {
		for _, e := range []api.Errno{api.ErrShort, api.ErrCorrupt, api.ErrRest} {
			r := wire.Read(b)
			r.Fail(e)
			if got := Take(r); got != (Record{}) || r.Err() != e || r.At() != 0 {
				t.Errorf("P14.1: Take of a reader with %d is %v, %d at %d", e, got, r.Err(), r.At())
			}
		}
	}
	r := &wire.Reader{}
	if got := Take(r); got != (Record{}) || r.Err() != api.ErrShort {
		t.Errorf("P14.1: Take of no bytes is %v, %d", got, r.Err())
	}
}

func TestTakeOfBytesThatEnd(t *testing.T) {
	for _, x := range []Record{{5, true, small()}, {9, true, sound()}, {31, true, widest()}} {
		b := modelBytes(x)
		for n := range b {
			wantTakeError(t, "cut off", b[:n:n], api.ErrShort)
			wantEnd(t, "cut off", b[:n], n)
		}
		wantTakeError(t, "whole", b, api.OK)
	}
	wantTakeError(t, "cut off in the count", []byte{0x86}, api.ErrShort)
	wantTakeError(t, "no bytes", nil, api.ErrShort)
}

func TestTakeOfDrawsThatThereAreNot(t *testing.T) {
	behind := modelBytes(Record{0, true, sound()})[1:]
	for _, n := range []uint64{64, 65, 66, 127, 128, 255, 256, 259, 1 << 32, 1<<32 + 7, math.MaxInt64, 1 << 63, math.MaxUint64} {
		for _, b := range [][]byte{count(n), append(count(n), behind...)} {
			r := wire.Read(b)
			if got := Take(r); got != (Record{}) || r.Err() == api.OK || r.At() != len(count(n)) {
				t.Errorf("P14.1: Take with the count %d is %v, %d at %d", n, got, r.Err(), r.At())
			}
			wantTakeError(t, "no such draw", b, api.ErrMany)
		}
	}
}

// replaced is a record's bytes with those of one difference replaced, and where these begin.
func replaced(x Record, i int, other []byte) (b []byte, start int) {
	b = count(uint64(2*x.Draw + 1))
	for j, d := range changes(x.Tri) {
		if j == i {
			start = len(b)
			b = append(b, other...)
		} else {
			b = append(b, integer(d)...)
		}
	}
	return b, start
}

func wantEnd(t *testing.T, what string, b []byte, at int) {
	t.Helper()
	r := wire.Read(b)
	if Take(r); r.At() != at {
		t.Errorf("P14.1: %s: the reader stands at %d, want %d", what, r.At(), at)
	}
}

// A difference at 2^20 is read on, although no triangle has it; one beyond it ends the reader at once.
func TestTakeOfDifferencesThatAreTooGreat(t *testing.T) {
	x := Record{9, true, sound()}
	for i, p := range places(&setup.Tri{}) {
		for _, d := range []int{1 << 20, -1 << 20} {
			b, start := replaced(x, i, integer(d))
			wantTakeError(t, p.name+" at 2^20", b, api.ErrRange)
			wantEnd(t, p.name+" at 2^20", b, len(b))
			if end := start + len(integer(d)); end < len(b) {
				wantTakeError(t, p.name+" at 2^20 and cut off", b[:end], api.ErrShort)
			}
		}
		for _, d := range []int{1<<20 + 1, -1<<20 - 1, 1 << 21, 1 << 32, -1 << 32, 1 << 62, math.MaxInt, math.MinInt} {
			b, start := replaced(x, i, integer(d))
			end := start + len(integer(d))
			wantTakeError(t, p.name+" beyond 2^20", b, api.ErrRange)
			wantTakeError(t, p.name+" beyond 2^20 and cut off", b[:end], api.ErrRange)
			wantEnd(t, p.name+" beyond 2^20", b, end)
		}
	}
}

func TestTakeOfNumbersInTooManyBytes(t *testing.T) {
	x := Record{9, true, small()}
	for i, p := range places(&setup.Tri{}) {
		short := integer(changes(x.Tri)[i])
		short[len(short)-1] |= 128
		for _, zeros := range []int{0, 1, 12} {
			long := append(bytes.Clone(short), bytes.Repeat([]byte{128}, zeros)...)
			b, _ := replaced(x, i, append(long, 0))
			wantTakeError(t, p.name+" in too many bytes", b, api.ErrForm)
		}
		huge, _ := replaced(x, i, append(bytes.Repeat([]byte{255}, 9), 2))
		wantTakeError(t, p.name+" of more than 64 bits", huge, api.ErrForm)
	}
	for _, text := range []string{"86 00", "80 00", "86 80 00", "ff ff ff ff ff ff ff ff ff 02", "80 80 80 80 80 80 80 80 80 80 00"} {
		wantTakeError(t, "a count in too many bytes", unhex(text), api.ErrForm)
	}
}

// Bytes of records that may not be: encoded by the model, which does not ask.
func TestTakeOfTrianglesThatMayNotBe(t *testing.T) {
	for i, p := range places(&setup.Tri{}) {
		for _, n := range []int{p.least - 1, p.most + 1} {
			x := Record{Draw: i, Some: true, Tri: sound()}
			*places(&x.Tri)[i].at = n
			wantTakeError(t, p.name+" beyond", modelBytes(x), api.ErrRange)
			x.Tri.Tri = x.Tri.Turned()
			wantTakeError(t, p.name+" beyond, turned", modelBytes(x), api.ErrRange)
		}
	}
	x := Record{Draw: 30, Some: true, Tri: sound()}
	x.Tri.Tri = x.Tri.Turned()
	wantTakeError(t, "a negative area", modelBytes(x), api.ErrForm)
	x.Tri.Tri[1] = x.Tri.Tri[0]
	wantTakeError(t, "area 0", modelBytes(x), api.ErrForm)
	wantTakeError(t, "nothing", modelBytes(Record{Some: true}), api.ErrRange)
	behind := append(modelBytes(x), 6)
	r := wire.Read(behind)
	if got := Take(r); got != (Record{}) || r.Left() != 0 || r.At() != len(behind)-1 || Take(r) != (Record{}) {
		t.Errorf("P14.1: a bad record leaves %v, %d bytes, at %d", got, r.Left(), r.At())
	}
}

// A record's bytes with one of them changed to each other byte.
func TestTakeOfChangedBytes(t *testing.T) {
	taken := 0
	for _, x := range []Record{{Draw: 3}, {5, true, small()}, {9, true, sound()}, {31, true, widest()}} {
		b := append(modelBytes(x), 6, 0)
		for i := range b {
			for c := range 256 {
				changed := bytes.Clone(b)
				changed[i] = byte(c)
				if wantTake(t, "one byte changed", changed) == api.OK {
					taken++
				}
			}
		}
	}
	if taken < 2000 {
		t.Errorf("only %d are records", taken)
	}
}

func TestTakeOfAnyBytes(t *testing.T) {
	var s source = 6
	counts := map[api.Errno]int{}
	for range 60000 {
		b := make([]byte, s.below(90))
		for i := range b {
			b[i] = byte(s.below([]int{64, 256}[s.below(2)]))
		}
		counts[wantTake(t, "any bytes", b)]++
	}
	for range 40000 {
		x := s.faulty()
		x.Draw &= 31
		x.Some = true
		counts[wantTake(t, "a record that may not be", modelBytes(x))]++
	}
	for _, e := range []api.Errno{api.OK, api.ErrShort, api.ErrForm, api.ErrMany, api.ErrRange} {
		if counts[e] < 500 {
			t.Errorf("the samples are not mixed: %v", counts)
		}
	}
	for c := range 65536 {
		wantTake(t, "two bytes", []byte{byte(c), byte(c >> 8)})
	}
}
