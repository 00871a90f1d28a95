package store

import (
	"bytes"
	"maps"
	"math"
	"math/big"
	"slices"
	"testing"

	"azulejo/api"
)

// source draws from a fixed sequence, so that every run has the same samples.
type source uint32

func (s *source) below(n int) int {
	*s = *s*1664525 + 1013904223
	return int(*s>>8) % n
}

// block returns 64 bytes that differ from those of every other small n.
func block(n int) []byte {
	b := make([]byte, api.BlockSize)
	for i := range b {
		b[i] = byte(n + i*n)
	}
	b[0], b[1] = byte(n>>8), byte(n)
	return b
}

func wantPut(t *testing.T, what string, d *Device, b []byte, number int, err api.Errno) {
	t.Helper()
	if n, e := d.Put(b); n != number || e != err {
		t.Errorf("P6.1: %s: Put %d, error %d, want %d, error %d", what, n, e, number, err)
	}
}

func wantTake(t *testing.T, what string, d *Device, n int, b []byte, err api.Errno) {
	t.Helper()
	if got, e := d.Take(n); !bytes.Equal(got, b) || e != err {
		t.Errorf("P6.1: %s: Take(%d) %x, error %d, want %x, error %d", what, n, got, e, b, err)
	}
}

func wantDrop(t *testing.T, what string, d *Device, n int, err api.Errno) {
	t.Helper()
	if e := d.Drop(n); e != err {
		t.Errorf("P6.1: %s: Drop(%d) error %d, want %d", what, n, e, err)
	}
}

func wantCounts(t *testing.T, what string, d *Device, used, most, room int) {
	t.Helper()
	if d.Used() != used || d.Most() != most || d.Room() != room {
		t.Errorf("P6.1: %s: Used %d, Most %d, Room %d, want %d, %d, %d", what, d.Used(), d.Most(), d.Room(), used, most, room)
	}
}

func TestNewLimitsTheRoom(t *testing.T) {
	for _, c := range []struct{ room, want int }{
		{math.MinInt, 0}, {-4096, 0}, {-1, 0}, {0, 0}, {1, 1}, {2, 2}, {100, 100}, {4095, 4095},
		{4096, 4096}, {4097, 4096}, {10000, 4096}, {1 << 32, 4096}, {math.MaxInt, 4096},
	} {
		d := New(c.room, Plan{})
		if d == nil {
			t.Fatalf("P6.1: New(%d) is nil", c.room)
		}
		wantCounts(t, "a new device", d, 0, 0, c.want)
		for n := 1; n <= c.want; n++ {
			wantPut(t, "while there is room", d, block(n), n, api.OK)
		}
		wantPut(t, "when there is no more room", d, block(0), 0, api.ErrFull)
		wantCounts(t, "a full device", d, c.want, c.want, c.want)
		for n := 1; n <= c.want; n++ {
			wantTake(t, "from a full device", d, n, block(n), api.OK)
		}
		wantCounts(t, "a device that was full", d, 0, c.want, c.want)
	}
}

func TestPutWithoutRoom(t *testing.T) {
	for _, room := range []int{math.MinInt, -1, 0} {
		d := New(room, Plan{})
		for range 3 {
			wantPut(t, "the example", d, block(1), 0, api.ErrFull)
		}
		wantPut(t, "no room, and no block", d, nil, 0, api.ErrSize)
		wantTake(t, "no room", d, 1, nil, api.ErrNone)
		wantDrop(t, "no room", d, 1, api.ErrNone)
		wantCounts(t, "no room", d, 0, 0, 0)
	}
}

func TestZeroDevice(t *testing.T) {
	d := &Device{}
	wantPut(t, "the zero value", d, block(1), 0, api.ErrFull)
	wantPut(t, "the zero value", d, block(1)[:63], 0, api.ErrSize)
	wantTake(t, "the zero value", d, 0, nil, api.ErrNone)
	wantDrop(t, "the zero value", d, 1, api.ErrNone)
	wantCounts(t, "the zero value", d, 0, 0, 0)
}

func TestPutAndTake(t *testing.T) {
	d := New(10, Plan{})
	for n := 1; n <= 5; n++ {
		wantPut(t, "in order", d, block(n), n, api.OK)
		wantCounts(t, "after a Put", d, n, n, 10)
	}
	for left, n := range []int{3, 1, 5, 4, 2} {
		wantTake(t, "in another order", d, n, block(n), api.OK)
		wantCounts(t, "after a Take", d, 4-left, 5, 10)
	}
}

func TestPutAnyBytes(t *testing.T) {
	s := source(1)
	list := [][]byte{make([]byte, 64), bytes.Repeat([]byte{0xff}, 64), bytes.Repeat([]byte{0xaa}, 64)}
	for range 200 {
		b := make([]byte, 64)
		for i := range b {
			b[i] = byte(s.below(256))
		}
		list = append(list, b)
	}
	d := New(len(list), Plan{})
	for i, b := range list {
		wantPut(t, "any bytes", d, b, i+1, api.OK)
	}
	for i, b := range list {
		wantTake(t, "any bytes", d, i+1, b, api.OK)
	}
}

func TestPutOfOtherSizes(t *testing.T) {
	// Were a Put of another size counted, number 0 would no longer be that of the first block.
	d := New(2, Plan{Full: []int{0}})
	for size := range 200 {
		if size != 64 {
			wantPut(t, "another size", d, make([]byte, size), 0, api.ErrSize)
		}
	}
	wantPut(t, "nil", d, nil, 0, api.ErrSize)
	wantPut(t, "a script's bytes", d, make([]byte, api.MaxBytes), 0, api.ErrSize)
	wantPut(t, "what is in the spare capacity does not count", d, make([]byte, 128)[:63], 0, api.ErrSize)
	wantCounts(t, "other sizes", d, 0, 0, 2)
	wantPut(t, "the first one of 64 bytes", d, block(1), 0, api.ErrFull)
	wantPut(t, "the size is checked first", New(0, Plan{Full: []int{0}}), make([]byte, 65), 0, api.ErrSize)
	wantPut(t, "64 bytes and spare capacity", d, make([]byte, 128)[:64], 1, api.OK)
	wantPut(t, "another size between", d, make([]byte, 65), 0, api.ErrSize)
	wantPut(t, "behind another size", d, block(2), 2, api.OK)
	wantCounts(t, "two blocks", d, 2, 2, 2)
}

func TestFullPuts(t *testing.T) {
	d := New(100, Plan{Full: []int{7, 2, 2, 0, 3, -1, math.MinInt, math.MaxInt}})
	number := 0
	for put := range 12 {
		if slices.Contains([]int{0, 2, 3, 7}, put) {
			wantPut(t, "its number is in Full", d, block(put), 0, api.ErrFull)
			continue
		}
		number++
		wantPut(t, "its number is not in Full", d, block(put), number, api.OK)
		wantCounts(t, "some Puts in Full", d, number, number, 100)
	}
	for n, put := range []int{1, 4, 5, 6, 8, 9, 10, 11} {
		wantTake(t, "some Puts in Full", d, n+1, block(put), api.OK)
	}
}

func TestPutsWithoutRoomAreCounted(t *testing.T) {
	d := New(1, Plan{Full: []int{3}})
	wantPut(t, "Put 0", d, block(0), 1, api.OK)
	wantPut(t, "Put 1, no room", d, block(1), 0, api.ErrFull)
	wantPut(t, "Put 2, no room", d, block(2), 0, api.ErrFull)
	wantDrop(t, "room again", d, 1, api.OK)
	wantPut(t, "Put 3, in Full", d, block(3), 0, api.ErrFull)
	wantPut(t, "Put 4", d, block(4), 2, api.OK)
	wantTake(t, "Put 4", d, 2, block(4), api.OK)

	both := New(1, Plan{Full: []int{1}})
	wantPut(t, "Put 0", both, block(0), 1, api.OK)
	wantPut(t, "Put 1, in Full, no room", both, block(1), 0, api.ErrFull)
	wantDrop(t, "room again", both, 1, api.OK)
	wantPut(t, "Put 2: a number is used up once", both, block(2), 2, api.OK)
}

func TestNumbersAreNotGivenAgain(t *testing.T) {
	d := New(1, Plan{Fail: []int{1}})
	for n := 1; n <= 9; n++ {
		wantPut(t, "one at a time", d, block(n), n, api.OK)
		wantPut(t, "no room between", d, block(n), 0, api.ErrFull)
		wantPut(t, "another size between", d, nil, 0, api.ErrSize)
		switch n {
		case 1:
			wantTake(t, "taken", d, n, block(n), api.OK)
		case 2:
			wantTake(t, "failed", d, n, nil, api.ErrCorrupt)
		default:
			wantDrop(t, "dropped", d, n, api.OK)
		}
	}
	wantCounts(t, "one at a time", d, 0, 1, 1)
}

func TestBlocksThatThereAreNot(t *testing.T) {
	d := New(5, Plan{Fail: []int{1}})
	numbers := []int{math.MinInt, -1 << 32, -1, 0, 1, 2, 64, 4096, 1<<32 + 1, math.MaxInt}
	for _, n := range numbers {
		wantTake(t, "an empty device", d, n, nil, api.ErrNone)
		wantDrop(t, "an empty device", d, n, api.ErrNone)
	}
	for n := 1; n <= 4; n++ {
		wantPut(t, "four blocks", d, block(n), n, api.OK)
	}
	for _, n := range []int{math.MinInt, -1, 0, 5, 6, 1<<32 + 1, math.MaxInt} {
		wantTake(t, "no such block", d, n, nil, api.ErrNone)
		wantDrop(t, "no such block", d, n, api.ErrNone)
	}
	wantCounts(t, "four blocks", d, 4, 4, 5)
	wantTake(t, "Take 0", d, 1, block(1), api.OK)
	wantTake(t, "taken already", d, 1, nil, api.ErrNone)
	wantDrop(t, "taken already", d, 1, api.ErrNone)
	wantDrop(t, "a Drop is no Take", d, 2, api.OK)
	wantDrop(t, "dropped already", d, 2, api.ErrNone)
	wantTake(t, "dropped already", d, 2, nil, api.ErrNone)
	wantTake(t, "Take 1, in Fail", d, 3, nil, api.ErrCorrupt)
	wantTake(t, "failed already", d, 3, nil, api.ErrNone)
	wantDrop(t, "failed already", d, 3, api.ErrNone)
	wantCounts(t, "one block", d, 1, 4, 5)
	wantTake(t, "Take 2", d, 4, block(4), api.OK)
	wantCounts(t, "no block", d, 0, 4, 5)
}

func TestFailedTakes(t *testing.T) {
	d := New(20, Plan{Fail: []int{5, 0, 0, 3, 4, -1, math.MinInt, math.MaxInt}})
	for n := 1; n <= 10; n++ {
		wantPut(t, "ten blocks", d, block(n), n, api.OK)
	}
	for take := range 10 {
		// A Take that finds no block must not use up a number.
		wantTake(t, "no such block", d, 11, nil, api.ErrNone)
		n := 10 - take
		if slices.Contains([]int{0, 3, 4, 5}, take) {
			wantTake(t, "its number is in Fail", d, n, nil, api.ErrCorrupt)
		} else {
			wantTake(t, "its number is not in Fail", d, n, block(n), api.OK)
		}
		wantCounts(t, "some Takes in Fail", d, 9-take, 10, 20)
	}
}

func TestBentTakes(t *testing.T) {
	bends := map[int]Bend{
		1:           {From: 9, Mask: 1 << 31},
		3:           {From: 512, Mask: 1 << 31},
		4:           {From: 100, Mask: 0xffffffff},
		6:           {From: 100},
		7:           {From: 543, Mask: 0x80000001},
		-1:          {From: 0, Mask: 1 << 31},
		math.MaxInt: {From: 0, Mask: 1 << 31},
		math.MinInt: {From: 0, Mask: 1 << 31},
		1 << 32:     {From: 0, Mask: 1 << 31},
	}
	d := New(20, Plan{Bends: bends})
	for n := 1; n <= 10; n++ {
		wantPut(t, "ten blocks", d, block(n), n, api.OK)
	}
	for take := range 10 {
		wantTake(t, "no such block", d, 11, nil, api.ErrNone)
		n := take + 1
		if slices.Contains([]int{1, 3, 4, 7}, take) {
			wantTake(t, "bits are changed", d, n, nil, api.ErrCorrupt)
			wantDrop(t, "bits are changed: it is gone", d, n, api.ErrNone)
		} else {
			wantTake(t, "no bit is changed", d, n, block(n), api.OK)
		}
		wantCounts(t, "some Takes with changed bits", d, 9-take, 10, 20)
	}
}

func TestTakesThatFailAndAreBent(t *testing.T) {
	change := Bend{From: 3, Mask: 1 << 31}
	d := New(4, Plan{Fail: []int{0, 1}, Bends: map[int]Bend{0: change, 2: change}})
	for n := 1; n <= 4; n++ {
		wantPut(t, "four blocks", d, block(n), n, api.OK)
	}
	wantTake(t, "both", d, 1, nil, api.ErrCorrupt)
	wantTake(t, "Fail alone", d, 2, nil, api.ErrCorrupt)
	wantTake(t, "a Bend alone", d, 3, nil, api.ErrCorrupt)
	wantTake(t, "neither", d, 4, block(4), api.OK)
	wantCounts(t, "all are gone", d, 0, 4, 4)
}

// wholeBits is how many bits a block and its sum have.
const wholeBits = 8 * (api.BlockSize + 4)

// changedBits returns the places From + k that there are among size bits, computed with big integers, where nothing can overflow.
func changedBits(bend Bend, size int) []int {
	var list []int
	for k := range 32 {
		place := new(big.Int).Add(big.NewInt(int64(bend.From)), big.NewInt(int64(k)))
		if bend.Mask&(1<<31>>k) != 0 && place.Sign() >= 0 && place.Cmp(big.NewInt(int64(size))) < 0 {
			list = append(list, int(place.Int64()))
		}
	}
	return list
}

// places are all those at which a mask reaches a block and its sum, some around, and the ends of int.
func places() []int {
	list := []int{-wholeBits, 1 << 32, 1<<32 + 5, -1 << 32, 1 << 61, -1 << 61, math.MaxInt - wholeBits, math.MinInt + wholeBits}
	for from := -40; from < wholeBits+40; from++ {
		list = append(list, from)
	}
	for k := range 40 {
		list = append(list, math.MinInt+k, math.MaxInt-k)
	}
	return list
}

// bends have masks with no bit, one at every place, two, runs from both ends, and drawn ones, at every place.
func bends() []Bend {
	masks := []uint32{0, 0xffffffff, 0x80000001, 0xaaaaaaaa, 0x55555555, 0x04c11db7, 0x82608edb}
	for k := range 32 {
		masks = append(masks, 1<<k, ^uint32(0)<<k, ^uint32(0)>>k)
	}
	s := source(2)
	for range 20 {
		masks = append(masks, uint32(s.below(1<<16))<<16|uint32(s.below(1<<16)))
	}
	var list []Bend
	for _, from := range places() {
		for _, mask := range masks {
			list = append(list, Bend{from, mask})
		}
	}
	return list
}

func TestABendInvertsItsBits(t *testing.T) {
	for _, bend := range bends() {
		got, want := block(77), block(77)
		for _, place := range changedBits(bend, 8*len(want)) {
			want[place/8] ^= 128 >> (place % 8)
		}
		if bend.invert(got); !bytes.Equal(got, want) {
			t.Fatalf("P6.1: %+v makes %x of %x, want %x", bend, got, block(77), want)
		}
	}
	for _, c := range []struct {
		bend Bend
		want string
	}{
		{Bend{0, 1 << 31}, "\x80\x00\x00"},
		{Bend{0, 1 << 24}, "\x01\x00\x00"},
		{Bend{0, 0x00800000}, "\x00\x80\x00"},
		{Bend{9, 1 << 31}, "\x00\x40\x00"},
		{Bend{4, 0xff000001}, "\x0f\xf0\x00"},
		{Bend{23, 0xffffffff}, "\x00\x00\x01"},
		{Bend{-31, 3}, "\x80\x00\x00"},
		{Bend{-8, 0xffa50000}, "\xa5\x00\x00"},
		{Bend{24, 0xffffffff}, "\x00\x00\x00"},
		{Bend{-32, 0xffffffff}, "\x00\x00\x00"},
	} {
		got := make([]byte, 3)
		if c.bend.invert(got); string(got) != c.want {
			t.Errorf("P6.1: %+v makes %x of zeros, want %x", c.bend, got, c.want)
		}
	}
}

func TestEveryChangeIsNoticed(t *testing.T) {
	for _, bend := range bends() {
		d := New(1, Plan{Bends: map[int]Bend{0: bend}})
		d.Put(block(77))
		got, err := d.Take(1)
		want, wantErr := block(77), api.OK
		if len(changedBits(bend, wholeBits)) > 0 {
			want, wantErr = nil, api.ErrCorrupt
		}
		if !bytes.Equal(got, want) || err != wantErr || d.Used() != 0 {
			t.Fatalf("P6.1: Take with %+v: %x, error %d, Used %d, want %x, error %d, 0", bend, got, err, d.Used(), want, wantErr)
		}
	}
}

func TestBendsAtTheEnds(t *testing.T) {
	for _, c := range []struct {
		what string
		bend Bend
		err  api.Errno
	}{
		{"no bit of the mask", Bend{}, api.OK},
		{"the first bit", Bend{0, 1 << 31}, api.ErrCorrupt},
		{"the last bit of the bytes", Bend{511, 1 << 31}, api.ErrCorrupt},
		{"the first bit of the sum", Bend{512, 1 << 31}, api.ErrCorrupt},
		{"bytes and sum", Bend{511, 3 << 30}, api.ErrCorrupt},
		{"the last bit of the sum", Bend{543, 1 << 31}, api.ErrCorrupt},
		{"the last bit of the sum, by the mask's last", Bend{512, 1}, api.ErrCorrupt},
		{"behind the last bit", Bend{544, 0xffffffff}, api.OK},
		{"behind the last bit, by the mask", Bend{543, 0x7fffffff}, api.OK},
		{"behind the last bit, by the mask's last", Bend{513, 1}, api.OK},
		{"reaching beyond the last bit", Bend{543, 0xffffffff}, api.ErrCorrupt},
		{"before the first bit", Bend{-32, 0xffffffff}, api.OK},
		{"before the first bit, by the mask", Bend{-31, 0xfffffffe}, api.OK},
		{"reaching the first bit from before", Bend{-31, 1}, api.ErrCorrupt},
		{"the greatest int", Bend{math.MaxInt, 0xffffffff}, api.OK},
		{"the least int", Bend{math.MinInt, 0xffffffff}, api.OK},
	} {
		d := New(1, Plan{Bends: map[int]Bend{0: c.bend}})
		wantPut(t, c.what, d, block(5), 1, api.OK)
		want := block(5)
		if c.err != api.OK {
			want = nil
		}
		wantTake(t, c.what, d, 1, want, c.err)
		wantTake(t, c.what+": it is gone", d, 1, nil, api.ErrNone)
		wantCounts(t, c.what, d, 0, 1, 1)
	}
}

func TestMostStays(t *testing.T) {
	d := New(3, Plan{Full: []int{3}, Fail: []int{0}})
	wantPut(t, "one", d, block(1), 1, api.OK)
	wantPut(t, "two", d, block(2), 2, api.OK)
	wantTake(t, "one is gone", d, 1, nil, api.ErrCorrupt)
	wantCounts(t, "after a failed Take", d, 1, 2, 3)
	wantDrop(t, "two is gone", d, 2, api.OK)
	wantCounts(t, "after a Drop", d, 0, 2, 3)
	wantPut(t, "three", d, block(3), 3, api.OK)
	wantCounts(t, "fewer than before", d, 1, 2, 3)
	wantPut(t, "in Full", d, block(4), 0, api.ErrFull)
	wantPut(t, "four", d, block(4), 4, api.OK)
	wantCounts(t, "as many as before", d, 2, 2, 3)
	wantPut(t, "five", d, block(5), 5, api.OK)
	wantCounts(t, "more than before", d, 3, 3, 3)
	wantPut(t, "no room", d, block(6), 0, api.ErrFull)
	wantCounts(t, "after a Put without room", d, 3, 3, 3)
	for n := 3; n <= 5; n++ {
		wantTake(t, "all are gone", d, n, block(n), api.OK)
	}
	wantCounts(t, "all are gone", d, 0, 3, 3)
}

func TestNilDevice(t *testing.T) {
	var d *Device
	for _, b := range [][]byte{nil, {}, block(1), block(1)[:63], make([]byte, 65)} {
		wantPut(t, "R7", d, b, 0, api.ErrNil)
	}
	for _, n := range []int{math.MinInt, -1, 0, 1, math.MaxInt} {
		wantTake(t, "R7", d, n, nil, api.ErrNil)
		wantDrop(t, "R7", d, n, api.ErrNil)
	}
	wantCounts(t, "R7", d, 0, 0, 0)
}

func TestNoResultsBesideAnError(t *testing.T) {
	d := New(3, Plan{Fail: []int{0}, Bends: map[int]Bend{1: {0, 1 << 31}}})
	for n := 1; n <= 3; n++ {
		wantPut(t, "three blocks", d, block(n), n, api.OK)
	}
	for _, n := range []int{1, 1, 2, 0, 4} {
		if b, err := d.Take(n); b != nil || err == api.OK {
			t.Errorf("R3: Take(%d) %#v, error %d", n, b, err)
		}
	}
}

func TestEmptyPlansAreTheSame(t *testing.T) {
	for _, p := range []Plan{{}, {Full: []int{}, Fail: []int{}, Bends: map[int]Bend{}}} {
		d := New(1, p)
		for n := 1; n <= 3; n++ {
			wantPut(t, "R5", d, block(n), n, api.OK)
			wantTake(t, "R5", d, n, block(n), api.OK)
		}
	}
}

func TestBytesAreNotShared(t *testing.T) {
	d := New(3, Plan{})
	room := append(block(1), 0xee, 0xee, 0xee, 0xee, 0xee, 0xee)
	before := bytes.Clone(room)
	wantPut(t, "with spare capacity", d, room[:64], 1, api.OK)
	wantPut(t, "the same bytes", d, room[:64], 2, api.OK)
	wantPut(t, "the same bytes", d, room[:64], 3, api.OK)
	if !bytes.Equal(room, before) {
		t.Errorf("R6: Put has made %x of %x", room, before)
	}
	clear(room)
	first, _ := d.Take(1)
	if !bytes.Equal(first, before[:64]) {
		t.Errorf("R6: the device shares the argument of Put: %x", first)
	}
	clear(first[:cap(first)])
	if !bytes.Equal(room, make([]byte, len(room))) {
		t.Errorf("R6: the result of Take shares the argument of Put: %x", room)
	}
	second, _ := d.Take(2)
	if !bytes.Equal(second, before[:64]) {
		t.Errorf("R6: two blocks share their bytes: %x", second)
	}
	wantPut(t, "what was taken", d, second, 4, api.OK)
	clear(second[:cap(second)])
	wantTake(t, "R6: the third of the same bytes", d, 3, before[:64], api.OK)
	wantTake(t, "R6: what was taken and put again", d, 4, before[:64], api.OK)
}

// wantPlanned checks that a new device fails as planned: Puts 0 and 2, and of the Takes of three blocks the first two.
func wantPlanned(t *testing.T, what string, d *Device) {
	t.Helper()
	for put, want := range []int{0, 1, 0, 2, 3} {
		err := api.OK
		if want == 0 {
			err = api.ErrFull
		}
		wantPut(t, what, d, block(put), want, err)
	}
	wantTake(t, what, d, 1, nil, api.ErrCorrupt)
	wantTake(t, what, d, 2, nil, api.ErrCorrupt)
	wantTake(t, what, d, 3, block(4), api.OK)
}

func TestThePlanIsNotShared(t *testing.T) {
	full, fail := []int{0, 2, 98, 98}, []int{0, 99, 99}
	bends := map[int]Bend{1: {20, 1 << 31}}
	p := Plan{full[:2], fail[:1], bends}
	first, second := New(9, p), New(9, p)
	wantPlanned(t, "R6: the first of one plan", first)
	if !slices.Equal(full, []int{0, 2, 98, 98}) || !slices.Equal(fail, []int{0, 99, 99}) || !maps.Equal(bends, map[int]Bend{1: {20, 1 << 31}}) {
		t.Errorf("R6: the plan has become %v, %v, %v", full, fail, bends)
	}
	full[0], full[1], fail[0] = 1, 3, 2
	delete(bends, 1)
	bends[2] = Bend{0, 1 << 31}
	wantPlanned(t, "R6: the plan has changed behind New", second)
}

func TestDevicesAreApart(t *testing.T) {
	p := Plan{Full: []int{1}}
	a, b := New(2, p), New(3, p)
	wantPut(t, "one", a, block(1), 1, api.OK)
	wantCounts(t, "the other", b, 0, 0, 3)
	wantTake(t, "the other", b, 1, nil, api.ErrNone)
	wantPut(t, "the other", b, block(2), 1, api.OK)
	wantPut(t, "one", a, block(1), 0, api.ErrFull)
	wantPut(t, "the other", b, block(2), 0, api.ErrFull)
	wantTake(t, "one", a, 1, block(1), api.OK)
	wantTake(t, "the other", b, 1, block(2), api.OK)
	wantCounts(t, "one", a, 0, 1, 2)
	wantCounts(t, "the other", b, 0, 1, 3)
}

// model does what the chapter says with a list that keeps every Put that was ever made.
type model struct {
	plan        Plan
	room, most  int
	puts, takes int
	ever        [][]byte // by number - 1; nil where a block is gone
}

func (m *model) used() int {
	count := 0
	for _, b := range m.ever {
		if b != nil {
			count++
		}
	}
	return count
}

func (m *model) there(n int) bool { return n >= 1 && n <= len(m.ever) && m.ever[n-1] != nil }

func (m *model) put(b []byte) (int, api.Errno) {
	if len(b) != 64 {
		return 0, api.ErrSize
	}
	m.puts++
	if m.used() == m.room || slices.Index(m.plan.Full, m.puts-1) >= 0 {
		return 0, api.ErrFull
	}
	m.ever = append(m.ever, bytes.Clone(b))
	m.most = max(m.most, m.used())
	return len(m.ever), api.OK
}

func (m *model) take(n int) ([]byte, api.Errno) {
	if !m.there(n) {
		return nil, api.ErrNone
	}
	b := m.ever[n-1]
	m.ever[n-1] = nil
	m.takes++
	bend, bent := m.plan.Bends[m.takes-1]
	if slices.Index(m.plan.Fail, m.takes-1) >= 0 || bent && len(changedBits(bend, wholeBits)) > 0 {
		return nil, api.ErrCorrupt
	}
	return b, api.OK
}

func (m *model) drop(n int) api.Errno {
	if !m.there(n) {
		return api.ErrNone
	}
	m.ever[n-1] = nil
	return api.OK
}

func drawnPlan(s *source) Plan {
	p := Plan{Bends: map[int]Bend{}}
	for range s.below(30) {
		p.Full = append(p.Full, s.below(60)-2)
		p.Fail = append(p.Fail, s.below(60)-2)
		p.Bends[s.below(60)-2] = Bend{s.below(640) - 48, uint32(s.below(4)) << s.below(32)}
	}
	return p
}

// drawnSize is mostly that of a block.
func drawnSize(s *source) int {
	if s.below(5) == 0 {
		return 60 + s.below(8)
	}
	return 64
}

func TestDrawnCallsAgainstAModel(t *testing.T) {
	s := source(3)
	for range 300 {
		room := s.below(9)
		m := &model{plan: drawnPlan(&s), room: room}
		d, twin := New(room, m.plan), New(room, m.plan)
		for call := range 200 {
			n := s.below(len(m.ever)+3) - 1
			switch s.below(5) {
			case 0, 1:
				b := append(block(call), 0, 0, 0, 0, 0, 0, 0, 0)[:drawnSize(&s)]
				number, err := m.put(b)
				wantPut(t, "as the model", d, b, number, err)
				wantPut(t, "R8: as the model", twin, b, number, err)
			case 2, 3:
				b, err := m.take(n)
				wantTake(t, "as the model", d, n, b, err)
				wantTake(t, "R8: as the model", twin, n, b, err)
			default:
				err := m.drop(n)
				wantDrop(t, "as the model", d, n, err)
				wantDrop(t, "R8: as the model", twin, n, err)
			}
			wantCounts(t, "as the model", d, m.used(), m.most, room)
			if d.Used() > d.Room() || d.Most() > d.Room() {
				t.Fatalf("P5: %d blocks, at most %d, where there are %d", d.Used(), d.Most(), d.Room())
			}
		}
		for n := range len(m.ever) + 1 {
			d.Drop(n)
		}
		wantCounts(t, "P5: all are dropped", d, 0, m.most, room)
		if t.Failed() {
			return
		}
	}
}

// The device never hands out other bytes than those that were put, whatever is changed within 32 bits.
func TestTakesAreRightOrCorrupt(t *testing.T) {
	s := source(4)
	for range 100 {
		d := New(80, drawnPlan(&s))
		content := map[int]int{}
		for put := range 80 {
			if n, err := d.Put(block(put)); err == api.OK {
				content[n] = put
			}
		}
		for n := 1; n <= len(content); n++ {
			if b, err := d.Take(n); err != api.ErrCorrupt && (err != api.OK || !bytes.Equal(b, block(content[n]))) {
				t.Errorf("P6: Take(%d) %x, error %d", n, b, err)
			}
		}
		if d.Used() != 0 {
			t.Errorf("P5: %d blocks are left", d.Used())
		}
	}
}
