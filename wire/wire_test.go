package wire

import (
	"bytes"
	"math"
	"math/big"
	"testing"

	"azulejo/api"
)

// numbers are around every limit at which an encoding grows by a byte, from one end of int to the other.
func numbers() []int {
	list := []int{math.MinInt, math.MinInt + 1, math.MaxInt - 1, math.MaxInt, 0, 1, -1, 2, -2, 300, -300}
	for bits := 6; bits < 63; bits++ {
		n := 1 << bits
		list = append(list, n-1, n, n+1, -n-1, -n, -n+1)
	}
	return list
}

// source draws from a fixed sequence, so that every run has the same samples.
type source uint32

func (s *source) below(n int) int {
	*s = *s*1664525 + 1013904223
	return int(*s>>8) % n
}

func encoded(write func(w *Writer)) []byte {
	w := &Writer{}
	write(w)
	return w.Bytes()
}

func encodedCount(n int) []byte { return encoded(func(w *Writer) { w.Count(n) }) }

func encodedInt(n int) []byte { return encoded(func(w *Writer) { w.Int(n) }) }

// The expected results are computed with big integers, where nothing can overflow.

// exactBytes returns the digits of n in base 128, the lowest first, 128 added to all but the last.
func exactBytes(n *big.Int) []byte {
	base, digit, rest := big.NewInt(128), new(big.Int), new(big.Int).Set(n)
	var result []byte
	for {
		rest.DivMod(rest, base, digit)
		if rest.Sign() == 0 {
			return append(result, byte(digit.Int64()))
		}
		result = append(result, byte(digit.Int64())+128)
	}
}

// exactFold returns 2n, or -2n - 1 if n is negative.
func exactFold(n int) *big.Int {
	twice := new(big.Int).Mul(big.NewInt(2), big.NewInt(int64(n)))
	if n >= 0 {
		return twice
	}
	return twice.Neg(twice).Sub(twice, big.NewInt(1))
}

// exactUnfold is the inverse of exactFold.
func exactUnfold(n *big.Int) int {
	if n.Bit(0) == 0 {
		return int(new(big.Int).Rsh(n, 1).Int64())
	}
	half := new(big.Int).Add(n, big.NewInt(1))
	half.Rsh(half, 1)
	return int(half.Neg(half).Int64())
}

// exactNumber returns the number at the beginning of b, how many bytes it has, and its error.
func exactNumber(b []byte) (*big.Int, int, api.Errno) {
	n := new(big.Int)
	for i, c := range b {
		digit := big.NewInt(int64(c & 127))
		n.Or(n, digit.Lsh(digit, uint(7*i)))
		if c >= 128 {
			continue
		}
		if c == 0 && i > 0 || n.BitLen() > 64 {
			return new(big.Int), i + 1, api.ErrForm
		}
		return n, i + 1, api.OK
	}
	return new(big.Int), len(b), api.ErrShort
}

// run returns count bytes c, followed by others.
func run(count int, c byte, others ...byte) []byte {
	return append(bytes.Repeat([]byte{c}, count), others...)
}

// encodings are numbers of all lengths and forms: valid ones, ones without an end, and ones that are too long.
func encodings() [][]byte {
	list := [][]byte{nil}
	for count := range 14 {
		for _, c := range []byte{0x80, 0x81, 0xc0, 0xff} {
			list = append(list, run(count, c))
			for last := range 128 {
				list = append(list, run(count, c, byte(last)), run(count, c, byte(last), 0x05))
			}
		}
	}
	s := source(1)
	some := []byte{0, 1, 2, 0x3f, 0x40, 0x7e, 0x7f, 0x80, 0x81, 0xfe, 0xff, 0x80, 0xff, 0x80, 0xff}
	for range 20000 {
		b := make([]byte, s.below(14))
		for i := range b {
			b[i] = some[s.below(len(some))]
		}
		list = append(list, b)
	}
	return list
}

func wantBytes(t *testing.T, what string, got []byte, want ...byte) {
	t.Helper()
	if !bytes.Equal(got, want) {
		t.Errorf("%s: got %x, want %x", what, got, want)
	}
}

// wantReader checks what a reader tells of itself, without changing it.
func wantReader(t *testing.T, what string, r *Reader, err api.Errno, at, left int) {
	t.Helper()
	if r.Err() != err || r.At() != at || r.Left() != left {
		t.Errorf("%s: Err %d, At %d, Left %d; want %d, %d, %d", what, r.Err(), r.At(), r.Left(), err, at, left)
	}
}

// wantStopped checks that a reader has an error that stays, and that every result but At's is zero.
func wantStopped(t *testing.T, what string, r *Reader, err api.Errno, at int) {
	t.Helper()
	for range 2 {
		wantReader(t, what, r, err, at, 0)
		if c := r.Byte(); c != 0 {
			t.Errorf("%s: Byte %d after the error", what, c)
		}
		if n := r.Count(math.MaxInt); n != 0 {
			t.Errorf("%s: Count %d after the error", what, n)
		}
		if n := r.Count(-1); n != 0 {
			t.Errorf("%s: Count(-1) %d after the error", what, n)
		}
		if n := r.Int(); n != 0 {
			t.Errorf("%s: Int %d after the error", what, n)
		}
		if n := r.Within(5, 6); n != 0 {
			t.Errorf("%s: Within(5, 6) %d after the error", what, n)
		}
		if n := r.Within(math.MinInt, math.MaxInt); n != 0 {
			t.Errorf("%s: Within %d after the error", what, n)
		}
		for _, n := range []int{-1, 0, 1, math.MaxInt} {
			if b := r.Bytes(n); len(b) != 0 {
				t.Errorf("%s: Bytes(%d) %x after the error", what, n, b)
			}
		}
		r.Fail(api.ErrNumber)
		r.Fail(api.OK)
		if e := r.End(); e != err {
			t.Errorf("%s: End %d, want %d", what, e, err)
		}
		wantReader(t, what, r, err, at, 0)
	}
}

func TestWriteCount(t *testing.T) {
	rows := []struct {
		n    int
		want []byte
	}{
		{0, []byte{0}},
		{1, []byte{1}},
		{127, []byte{0x7f}},
		{128, []byte{0x80, 1}},
		{300, []byte{0xac, 2}},
		{16383, []byte{0xff, 0x7f}},
		{16384, []byte{0x80, 0x80, 1}},
		{math.MaxInt, run(8, 0xff, 0x7f)},
		{-1, []byte{0}},
		{-300, []byte{0}},
		{math.MinInt, []byte{0}},
	}
	for _, r := range rows {
		wantBytes(t, "P4.1: Count", encodedCount(r.n), r.want...)
	}
	for _, n := range numbers() {
		wantBytes(t, "P4.1: Count", encodedCount(n), exactBytes(big.NewInt(int64(max(n, 0))))...)
	}
}

func TestWriteInt(t *testing.T) {
	rows := []struct {
		n    int
		want []byte
	}{
		{0, []byte{0}},
		{-1, []byte{1}},
		{1, []byte{2}},
		{-2, []byte{3}},
		{63, []byte{0x7e}},
		{-64, []byte{0x7f}},
		{64, []byte{0x80, 1}},
		{-65, []byte{0x81, 1}},
		{8191, []byte{0xfe, 0x7f}},
		{-8192, []byte{0xff, 0x7f}},
		{8192, []byte{0x80, 0x80, 1}},
		{math.MaxInt, run(1, 0xfe, run(8, 0xff, 1)...)},
		{math.MinInt, run(9, 0xff, 1)},
	}
	for _, r := range rows {
		wantBytes(t, "P4.1: Int", encodedInt(r.n), r.want...)
	}
	for _, n := range numbers() {
		wantBytes(t, "P4.1: Int", encodedInt(n), exactBytes(exactFold(n))...)
	}
}

func TestWriteBytes(t *testing.T) {
	w := &Writer{}
	if w.Len() != 0 || len(w.Bytes()) != 0 {
		t.Errorf("P4.1: a new Writer has %x", w.Bytes())
	}
	var want []byte
	for c := range 256 {
		w.Byte(byte(c))
		want = append(want, byte(c))
	}
	wantBytes(t, "P4.1: Byte", w.Bytes(), want...)
	w.Put([]byte{9, 0, 255})
	w.Put(nil)
	w.Put([]byte{})
	w.Count(300)
	w.Put([]byte{7})
	w.Int(-1)
	want = append(want, 9, 0, 255, 0xac, 2, 7, 1)
	wantBytes(t, "P4.1: Put", w.Bytes(), want...)
	if w.Len() != len(want) {
		t.Errorf("P4.1: Len %d, want %d", w.Len(), len(want))
	}
	wantBytes(t, "P4.1: Bytes once more", w.Bytes(), want...)
}

// The argument and its spare capacity stay as they are, and a later change of it does not reach the Writer.
func TestPutLeavesItsArgument(t *testing.T) {
	full := []byte{1, 2, 3, 4, 5, 6}
	w := &Writer{}
	w.Put(full[:2])
	for range 20 {
		w.Byte(9)
	}
	wantBytes(t, "R6: the argument of Put", full, 1, 2, 3, 4, 5, 6)
	full[0], full[1] = 77, 78
	wantBytes(t, "R6: what was Put", w.Bytes()[:2], 1, 2)
}

func TestWrittenBytesAreNew(t *testing.T) {
	w := &Writer{}
	w.Put([]byte{1, 2, 3})
	one, two := w.Bytes(), w.Bytes()
	one[0] = 77
	_ = append(one[:1], 78, 79, 80, 81)
	wantBytes(t, "R6: an earlier result of Bytes", two, 1, 2, 3)
	w.Byte(4)
	wantBytes(t, "R6: the Writer", w.Bytes(), 1, 2, 3, 4)
	_ = append(two, 88)
	wantBytes(t, "R6: the Writer", w.Bytes(), 1, 2, 3, 4)
}

func TestWritersAreApart(t *testing.T) {
	v, w := &Writer{}, &Writer{}
	for c := range 50 {
		v.Byte(byte(c))
		w.Byte(byte(100 + c))
	}
	if v.Bytes()[49] != 49 || w.Bytes()[0] != 100 {
		t.Error("R8: two Writers share bytes")
	}
}

func TestNilWriter(t *testing.T) {
	var w *Writer
	w.Byte(1)
	w.Count(300)
	w.Count(-1)
	w.Int(math.MinInt)
	w.Put([]byte{1})
	w.Put(nil)
	if w.Len() != 0 || len(w.Bytes()) != 0 {
		t.Error("R7: a nil Writer has bytes")
	}
}

func TestReadExample(t *testing.T) {
	r := Read([]byte{1, 0xac, 2, 7, 8, 9, 0x80, 1})
	wantReader(t, "P4.2: at the start", r, api.OK, 0, 8)
	if n := r.Int(); n != -1 {
		t.Errorf("P4.2: Int %d, want -1", n)
	}
	wantReader(t, "P4.2: after Int", r, api.OK, 1, 7)
	if n := r.Count(300); n != 300 {
		t.Errorf("P4.2: Count %d, want 300", n)
	}
	wantReader(t, "P4.2: after Count", r, api.OK, 3, 5)
	if c := r.Byte(); c != 7 {
		t.Errorf("P4.2: Byte %d, want 7", c)
	}
	wantReader(t, "P4.2: after Byte", r, api.OK, 4, 4)
	wantBytes(t, "P4.2: Bytes", r.Bytes(2), 8, 9)
	wantReader(t, "P4.2: after Bytes", r, api.OK, 6, 2)
	if n := r.Within(64, 64); n != 64 {
		t.Errorf("P4.2: Within %d, want 64", n)
	}
	wantReader(t, "P4.2: at the end", r, api.OK, 8, 0)
	if e := r.End(); e != api.OK {
		t.Errorf("P4.2: End %d, want OK", e)
	}
	wantReader(t, "P4.2: after End", r, api.OK, 8, 0)
}

func TestReadOfNoBytes(t *testing.T) {
	for _, r := range []*Reader{Read(nil), Read([]byte{}), {}} {
		wantReader(t, "P4.2: no bytes", r, api.OK, 0, 0)
		if b := r.Bytes(0); len(b) != 0 || r.End() != api.OK {
			t.Errorf("P4.2: Bytes(0) %x, End %d", b, r.End())
		}
		if c := r.Byte(); c != 0 {
			t.Errorf("P4.2: Byte %d of no bytes", c)
		}
		wantStopped(t, "P4.2: Byte of no bytes", r, api.ErrShort, 0)
	}
}

// Every number is read again from what was written, and nothing beyond it.
func TestReadWhatIsWritten(t *testing.T) {
	w, list := &Writer{}, numbers()
	for _, n := range list {
		w.Count(n)
		w.Int(n)
		w.Byte(byte(n))
		w.Put([]byte{1, 0, byte(n)})
		w.Int(n)
	}
	r := Read(w.Bytes())
	for _, n := range list {
		if got := r.Count(math.MaxInt); got != max(n, 0) {
			t.Fatalf("P4.2: Count %d, want %d", got, max(n, 0))
		}
		if got := r.Int(); got != n {
			t.Fatalf("P4.2: Int %d, want %d", got, n)
		}
		if got := r.Byte(); got != byte(n) {
			t.Fatalf("P4.2: Byte %d, want %d", got, byte(n))
		}
		wantBytes(t, "P4.2: Bytes", r.Bytes(3), 1, 0, byte(n))
		if got := r.Within(n, n); got != n {
			t.Fatalf("P4.2: Within %d, want %d", got, n)
		}
		if r.At()+r.Left() != w.Len() {
			t.Fatalf("P4.2: At %d and Left %d of %d", r.At(), r.Left(), w.Len())
		}
	}
	if e := r.End(); e != api.OK {
		t.Errorf("P4.2: End %d, want OK", e)
	}
}

func TestReadEveryForm(t *testing.T) {
	for _, b := range encodings() {
		n, size, err := exactNumber(b)
		left := len(b) - size
		if err != api.OK {
			left = 0
		}
		r := Read(b)
		if got := r.Int(); got != exactUnfold(n) {
			t.Errorf("P4.2: Int of %x: %d, want %d", b, got, exactUnfold(n))
		}
		wantReader(t, "P4.2: after Int", r, err, size, left)
		if err == api.OK {
			wantBytes(t, "P4.1: Int once more", encodedInt(exactUnfold(n)), b[:size]...)
		}

		want := 0
		if n.IsInt64() {
			want = int(n.Int64())
		} else {
			err, left = api.ErrMany, 0
		}
		r = Read(b)
		if got := r.Count(math.MaxInt); got != want {
			t.Errorf("P4.2: Count of %x: %d, want %d", b, got, want)
		}
		wantReader(t, "P4.2: after Count", r, err, size, left)
	}
}

// Each row is the bytes of a number, the error of reading it, and how many bytes were read by then.
func TestReadErrors(t *testing.T) {
	rows := []struct {
		b   []byte
		err api.Errno
		at  int
	}{
		// Missing bytes.
		{nil, api.ErrShort, 0},
		{[]byte{0x80}, api.ErrShort, 1},
		{[]byte{0xff, 0xff, 0x81}, api.ErrShort, 3},
		{run(9, 0xff), api.ErrShort, 9},
		// Missing bytes are named first, so they count even if the number is too long already.
		{run(10, 0xff), api.ErrShort, 10},
		{run(12, 0x80), api.ErrShort, 12},
		// A last byte that is 0.
		{[]byte{0x80, 0}, api.ErrForm, 2},
		{[]byte{0x81, 0}, api.ErrForm, 2},
		{[]byte{0x81, 0x80, 0, 9}, api.ErrForm, 3},
		{run(9, 0x80, 0), api.ErrForm, 10},
		{run(10, 0x80, 0), api.ErrForm, 11},
		// More than 64 bits.
		{run(9, 0x80, 2), api.ErrForm, 10},
		{run(9, 0xff, 3), api.ErrForm, 10},
		{run(9, 0xff, 0x7f, 1), api.ErrForm, 10},
		{run(10, 0x80, 1), api.ErrForm, 11},
		{run(10, 0xff, 1, 1), api.ErrForm, 11},
		{run(300, 0x80, 1), api.ErrForm, 301},
	}
	ways := map[string]func(r *Reader) int{
		"Count":    func(r *Reader) int { return r.Count(math.MaxInt) },
		"Count(0)": func(r *Reader) int { return r.Count(0) },
		"Int":      func(r *Reader) int { return r.Int() },
		"Within":   func(r *Reader) int { return r.Within(math.MinInt, math.MaxInt) },
		"Within 5": func(r *Reader) int { return r.Within(5, 6) },
	}
	for _, row := range rows {
		for name, read := range ways {
			r := Read(append([]byte{42}, row.b...))
			if c := r.Byte(); c != 42 {
				t.Errorf("P4.2: Byte %d, want 42", c)
			}
			if n := read(r); n != 0 {
				t.Errorf("P4.2: %s of %x: %d, want 0", name, row.b, n)
			}
			wantStopped(t, "P4.2: "+name, r, row.err, row.at+1)
		}
	}
}

func TestReadCountAboveMost(t *testing.T) {
	rows := []struct {
		b          []byte
		most, want int
		err        api.Errno
	}{
		{[]byte{0}, 0, 0, api.OK},
		{[]byte{0}, -1, 0, api.OK},
		{[]byte{0}, math.MinInt, 0, api.OK},
		{[]byte{1}, 0, 0, api.ErrMany},
		{[]byte{1}, -1, 0, api.ErrMany},
		{[]byte{1}, math.MinInt, 0, api.ErrMany},
		{[]byte{1}, 1, 1, api.OK},
		{[]byte{0x7f}, 127, 127, api.OK},
		{[]byte{0x7f}, 126, 0, api.ErrMany},
		{[]byte{0xac, 2}, 300, 300, api.OK},
		{[]byte{0xac, 2}, 299, 0, api.ErrMany},
		{[]byte{0xac, 2}, math.MaxInt, 300, api.OK},
		{run(8, 0xff, 0x7f), math.MaxInt, math.MaxInt, api.OK},
		{run(8, 0xff, 0x7f), math.MaxInt - 1, 0, api.ErrMany},
		// Numbers of 64 bits are above every int.
		{run(9, 0x80, 1), math.MaxInt, 0, api.ErrMany},
		{run(9, 0xff, 1), math.MaxInt, 0, api.ErrMany},
		{run(9, 0xff, 1), -1, 0, api.ErrMany},
	}
	for _, row := range rows {
		r := Read(append(append([]byte{}, row.b...), 5, 6))
		if n := r.Count(row.most); n != row.want {
			t.Errorf("P4.2: Count(%d) of %x: %d, want %d", row.most, row.b, n, row.want)
		}
		if row.err == api.OK {
			wantReader(t, "P4.2: Count", r, api.OK, len(row.b), 2)
		} else {
			wantStopped(t, "P4.2: Count", r, row.err, len(row.b))
		}
	}
}

func TestReadWithin(t *testing.T) {
	rows := []struct {
		n, from, to int
		err         api.Errno
	}{
		{-1, -1, 0, api.OK},
		{0, -1, 0, api.OK},
		{1, -1, 0, api.ErrRange},
		{-2, -1, 0, api.ErrRange},
		{5, 5, 5, api.OK},
		{5, 6, 9, api.ErrRange},
		{5, -9, 4, api.ErrRange},
		// No number is from 6 to 4.
		{5, 6, 4, api.ErrRange},
		{0, 1, -1, api.ErrRange},
		{0, 1, 2, api.ErrRange},
		{math.MinInt, math.MinInt, math.MaxInt, api.OK},
		{math.MaxInt, math.MinInt, math.MaxInt, api.OK},
		{math.MinInt, math.MinInt + 1, math.MaxInt, api.ErrRange},
		{math.MaxInt, math.MinInt, math.MaxInt - 1, api.ErrRange},
	}
	for _, row := range rows {
		b := encodedInt(row.n)
		r := Read(append(b[:len(b):len(b)], 5, 6))
		n := r.Within(row.from, row.to)
		if row.err == api.OK {
			wantReader(t, "P4.2: Within", r, api.OK, len(b), 2)
		} else {
			wantStopped(t, "P4.2: Within", r, row.err, len(b))
			row.n = 0
		}
		if n != row.n {
			t.Errorf("P4.2: Within(%d, %d): %d, want %d", row.from, row.to, n, row.n)
		}
	}
}

func TestReadBytes(t *testing.T) {
	for _, n := range []int{0, 1, 2, 3} {
		r := Read([]byte{9, 1, 2, 3})
		r.Byte()
		wantBytes(t, "P4.2: Bytes", r.Bytes(n), []byte{1, 2, 3}[:n]...)
		wantReader(t, "P4.2: Bytes", r, api.OK, 1+n, 3-n)
	}
	for _, n := range []int{-1, math.MinInt, 4, 5, math.MaxInt} {
		r := Read([]byte{9, 1, 2, 3})
		r.Byte()
		if b := r.Bytes(n); len(b) != 0 {
			t.Errorf("P4.2: Bytes(%d): %x", n, b)
		}
		wantStopped(t, "P4.2: Bytes", r, api.ErrShort, 1)
	}
}

func TestFail(t *testing.T) {
	for e := api.ErrNil; e <= api.ErrNumber; e++ {
		r := Read([]byte{1, 2, 3})
		r.Byte()
		r.Fail(api.OK)
		wantReader(t, "P4.2: Fail(OK)", r, api.OK, 1, 2)
		r.Fail(e)
		wantStopped(t, "P4.2: Fail", r, e, 1)
	}
	// The first error stays, whether it is of reading or of Fail.
	r := Read([]byte{2})
	r.Count(1)
	r.Fail(api.ErrState)
	wantStopped(t, "P4.2: Fail after Count", r, api.ErrMany, 1)
	r = Read(nil)
	r.Fail(api.ErrState)
	r.Byte()
	wantStopped(t, "P4.2: Byte after Fail", r, api.ErrState, 0)
}

func TestEnd(t *testing.T) {
	r := Read([]byte{1, 2})
	for left := 2; left > 0; left-- {
		for range 2 {
			if e := r.End(); e != api.ErrRest {
				t.Errorf("P4.2: End %d with %d bytes left, want ErrRest", e, left)
			}
			// R4: End has changed nothing.
			wantReader(t, "P4.2: after End", r, api.OK, 2-left, left)
		}
		if c := r.Byte(); c != byte(3-left) {
			t.Errorf("P4.2: Byte %d, want %d", c, 3-left)
		}
	}
	if e := r.End(); e != api.OK {
		t.Errorf("P4.2: End %d, want OK", e)
	}
	// An error comes before the bytes that are left behind it.
	r = Read([]byte{1, 2})
	r.Fail(api.ErrState)
	if e := r.End(); e != api.ErrState {
		t.Errorf("P4.2: End %d, want ErrState", e)
	}
}

// The argument stays as it is, and a later change of it does not reach the Reader.
func TestReadLeavesItsArgument(t *testing.T) {
	full := []byte{0xac, 2, 7, 8, 9, 10}
	r := Read(full[:4])
	r.Count(300)
	r.Bytes(2)
	r.Byte()
	wantBytes(t, "R6: the argument of Read", full, 0xac, 2, 7, 8, 9, 10)
	wantReader(t, "P4.2: beyond the argument's length", r, api.ErrShort, 4, 0)

	r = Read(full)
	full[0], full[2] = 1, 99
	if n := r.Count(300); n != 300 {
		t.Errorf("R6: Count %d, want 300", n)
	}
	wantBytes(t, "R6: Bytes", r.Bytes(2), 7, 8)
}

func TestReadBytesAreNew(t *testing.T) {
	b := []byte{1, 2, 3, 4}
	r := Read(b)
	got := r.Bytes(2)
	got[0] = 77
	_ = append(got, 88, 99)
	wantBytes(t, "R6: the argument of Read", b, 1, 2, 3, 4)
	wantBytes(t, "R6: the next Bytes", r.Bytes(2), 3, 4)
	if e := r.End(); e != api.OK {
		t.Errorf("R6: End %d, want OK", e)
	}
}

func TestReadersAreApart(t *testing.T) {
	b := []byte{1, 2, 3}
	q, r := Read(b), Read(b)
	q.Byte()
	q.Fail(api.ErrState)
	wantReader(t, "R8: another Reader", r, api.OK, 0, 3)
	wantBytes(t, "R8: another Reader", r.Bytes(3), 1, 2, 3)
}

func TestNilReader(t *testing.T) {
	var r *Reader
	r.Fail(api.ErrState)
	wantStopped(t, "R7: a nil Reader", r, api.ErrNil, 0)
}
