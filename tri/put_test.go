package tri

import (
	"bytes"
	"encoding/hex"
	"strings"
	"testing"

	"azulejo/api"
	"azulejo/edge"
	"azulejo/setup"
	"azulejo/wire"
)

// count is a number in groups of seven bits, the lowest first, with 128 added to each but the last.
func count(n uint64) (b []byte) {
	for ; n >= 128; n >>= 7 {
		b = append(b, byte(n)|128)
	}
	return append(b, byte(n))
}

// integer is a number with its sign in the lowest bit.
func integer(n int) []byte { return count(uint64(n<<1) ^ uint64(n>>63)) }

// changes are the numbers of a triangle, each minus the same one of the previous corner.
func changes(t setup.Tri) (all []int) {
	list := places(&t)
	for i, p := range list {
		before := 0
		if i >= 8 {
			before = *list[i-8].at
		}
		all = append(all, *p.at-before)
	}
	return all
}

// modelBytes follows the chapter, also of records that may not be.
func modelBytes(x Record) []byte {
	if !x.Some {
		return count(uint64(2 * x.Draw))
	}
	b := count(uint64(2*x.Draw + 1))
	for _, d := range changes(x.Tri) {
		b = append(b, integer(d)...)
	}
	return b
}

// unhex reads bytes that are written with blanks.
func unhex(s string) []byte {
	b, err := hex.DecodeString(strings.Join(strings.Fields(s), ""))
	if err != nil {
		panic(err)
	}
	return b
}

func wantPut(t *testing.T, what string, x Record, want []byte) {
	t.Helper()
	w := &wire.Writer{}
	if err := x.Put(w); err != api.OK || !bytes.Equal(w.Bytes(), want) {
		t.Errorf("P14.1: %s: Put of %v is % x, %d, want % x", what, x, w.Bytes(), err, want)
	}
	if w.Len() > 70 {
		t.Errorf("P14.1: %s: %v has %d bytes", what, x, w.Len())
	}
}

func TestPutWithoutTriangle(t *testing.T) {
	wantPut(t, "the chapter's example", Record{Draw: 3}, []byte{0x06})
	for draw := range 32 {
		wantPut(t, "without a triangle", Record{Draw: draw}, []byte{byte(2 * draw)})
	}
}

// small is the triangle of the tests by hand, with zero as its depths and colours.
func small() setup.Tri {
	return setup.Tri{Tri: edge.Tri{{X: 0, Y: 0}, {X: 64, Y: 0}, {X: 0, Y: 64}}, Near: [3]int{1, 2, 3}}
}

func TestPutByHand(t *testing.T) {
	rest := "00 00 00 02 00 00 00 00  80 01 00 00 02 00 00 00 00  7f 80 01 00 02 00 00 00 00"
	wantPut(t, "draw 5", Record{5, true, small()}, unhex("0b "+rest))
	wantPut(t, "draw 0", Record{0, true, small()}, unhex("01 "+rest))
	wantPut(t, "draw 31", Record{31, true, small()}, unhex("3f "+rest))
	// The differences are 10, 20, 1000, 1, 0, 65536, 3, 64; 490, -60, -1, 1023, 65536, -65536, 64, -64;
	// -800, 740, 64536, -524, -65534, 1, -64, 63.
	wantPut(t, "different numbers", Record{9, true, sound()}, unhex(
		"13  14 28 d0 0f 02 00 80 80 08 06 80 01"+
			"  d4 07 77 01 fe 0f 80 80 08 ff ff 07 80 01 7f"+
			"  bf 0c c8 0b b0 f0 07 97 08 fb ff 07 02 7f 7e"))
	wantPut(t, "the greatest differences", Record{31, true, widest()}, unhex(
		"3f  ff ff 01 ff ff 01 fe ff 07 80 10 80 80 08 80 80 08 80 80 08 80 80 08"+
			"  80 80 04 80 80 02 fd ff 07 fd 0f ff ff 07 ff ff 07 ff ff 07 ff ff 07"+
			"  ff ff 03 80 80 02 fe ff 07 fe 0f 80 80 08 80 80 08 80 80 08 80 80 08"))
	if n := len(modelBytes(Record{31, true, widest()})); n != 70 {
		t.Errorf("the widest record has %d bytes, not 70", n)
	}
}

// Each number goes from one end of its range to the other and back, while the others stay.
func TestPutOfEachNumberAtItsLimits(t *testing.T) {
	for _, base := range []setup.Tri{small(), sound(), widest()} {
		for i, p := range places(&setup.Tri{}) {
			for _, n := range []int{p.least, p.least + 1, p.most - 1, p.most} {
				x := Record{Draw: i, Some: true, Tri: base}
				*places(&x.Tri)[i].at = n
				if modelCheck(x) == api.OK {
					wantPut(t, p.name, x, modelBytes(x))
				}
			}
		}
	}
}

// The greatest and the least of every number; the points alone must stay three that go round.
func TestPutOfExtremes(t *testing.T) {
	for draw := range 32 {
		for ends := range 8 {
			x := Record{Draw: draw, Some: true, Tri: widest()}
			for i, p := range places(&x.Tri) {
				if i%8 < 2 {
					continue
				}
				*p.at = p.least
				if ends>>(i/8)&1 == 1 {
					*p.at = p.most
				}
			}
			wantPut(t, "extremes", x, modelBytes(x))
			x.Tri.Tri = edge.Tri{x.Tri.Tri[2], x.Tri.Tri[0], x.Tri.Tri[1]}
			wantPut(t, "extremes from the third point", x, modelBytes(x))
		}
	}
}

// Records stand one behind the other, and behind other bytes.
func TestPutAppends(t *testing.T) {
	var s source = 2
	w := &wire.Writer{}
	w.Put([]byte{9, 8, 7})
	want := []byte{9, 8, 7}
	for range 2000 {
		x := s.record()
		kept := x
		if err := x.Put(w); err != api.OK {
			t.Fatalf("P14.1: Put of %v is %d", x, err)
		}
		if x != kept {
			t.Fatalf("R6: Put changed %v to %v", kept, x)
		}
		want = append(want, modelBytes(x)...)
		wantPut(t, "alone (R8)", x, modelBytes(x))
	}
	if !bytes.Equal(w.Bytes(), want) {
		t.Error("P14.1: records one behind the other differ")
	}
}

func TestPutToNil(t *testing.T) {
	var s source = 3
	for range 1000 {
		x := s.faulty()
		if err := x.Put(nil); err != api.ErrNil {
			t.Errorf("P14.1: Put of %v to nil is %d", x, err)
		}
	}
	for _, x := range []Record{{}, {Draw: -1}, {Draw: 32}, {Some: true}, {Tri: sound()}, {31, true, widest()}} {
		if err := x.Put(nil); err != api.ErrNil {
			t.Errorf("P14.1: Put of %v to nil is %d", x, err)
		}
	}
}

// R4: a record that may not be leaves the writer as it was.
func TestPutOfErrors(t *testing.T) {
	var s source = 4
	w := &wire.Writer{}
	w.Put([]byte{1, 2})
	turned := sound()
	turned.Tri = turned.Turned()
	wants := map[api.Errno][]Record{
		api.ErrRange: {{Draw: -1}, {Draw: 32}, {Draw: 32, Tri: sound()}, {Some: true}, {-1, true, turned}},
		api.ErrForm:  {{Tri: sound()}, {3, true, turned}, {Draw: 3, Tri: turned}},
	}
	for want, all := range wants {
		for _, x := range all {
			if err := x.Put(w); err != want {
				t.Errorf("P14.1: Put of %v is %d, want %d", x, err, want)
			}
		}
	}
	for range 20000 {
		x := s.faulty()
		if want := modelCheck(x); want != api.OK {
			if err := x.Put(w); err != want {
				t.Errorf("P14.1: Put of %v is %d, want %d", x, err, want)
			}
		}
	}
	if !bytes.Equal(w.Bytes(), []byte{1, 2}) {
		t.Errorf("R4: the writer has %d bytes", w.Len())
	}
}
