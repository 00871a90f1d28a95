package crc

import (
	"bytes"
	"encoding/binary"
	"hash/crc32"
	"math/big"
	"math/bits"
	"testing"
)

// source draws from a fixed sequence, so that every run has the same samples.
type source uint32

func (s *source) below(n int) int {
	*s = *s*1664525 + 1013904223
	return int(*s>>8) % n
}

func (s *source) bytes(size int) []byte {
	b := make([]byte, size)
	for i := range b {
		b[i] = byte(s.below(256))
	}
	return b
}

// inputs are bytes of all small lengths: zeros, ones, single bits, counted and drawn ones.
func inputs() [][]byte {
	list := [][]byte{nil, {}, []byte("123456789"), []byte("a"), []byte("azulejo")}
	for c := range 256 {
		list = append(list, []byte{byte(c)}, []byte{0, byte(c)}, []byte{byte(c), 0})
	}
	s := source(1)
	for size := range 70 {
		counted := make([]byte, size)
		for i := range counted {
			counted[i] = byte(i)
		}
		list = append(list, make([]byte, size), bytes.Repeat([]byte{0xff}, size), counted)
		for range 10 {
			list = append(list, s.bytes(size))
		}
	}
	return append(list, s.bytes(256), s.bytes(1000), s.bytes(20000))
}

// reversedSum computes the sum with the library's CRC-32, which takes the least significant bit first.
func reversedSum(b []byte) uint32 {
	turned := make([]byte, len(b))
	for i, c := range b {
		turned[i] = bits.Reverse8(c)
	}
	return bits.Reverse32(crc32.ChecksumIEEE(turned))
}

// dividedSum computes the sum as a remainder: of all bits with 32 zeros behind, the first 32 inverted, divided by the polynomial.
func dividedSum(b []byte) uint32 {
	size := 8*len(b) + 32
	rest := new(big.Int).Lsh(new(big.Int).SetBytes(b), 32)
	ones := big.NewInt(0xffffffff)
	rest.Xor(rest, new(big.Int).Lsh(ones, uint(size-32)))
	divisor := big.NewInt(0x104c11db7)
	for at := size - 1; at >= 32; at-- {
		if rest.Bit(at) == 1 {
			rest.Xor(rest, new(big.Int).Lsh(divisor, uint(at-32)))
		}
	}
	return ^uint32(rest.Uint64())
}

func TestSumOfExamples(t *testing.T) {
	for _, c := range []struct {
		text string
		want uint32
	}{
		{"123456789", 0xfc891918},
		{"", 0},
		{"\x00", 0xb1f7404b},
		{"\x00\x00\x00\x00", 0x38fb2284},
		{"\xff\xff\xff\xff", 0xffffffff},
	} {
		if got := Sum([]byte(c.text)); got != c.want {
			t.Errorf("P5.1: Sum(%x) %08x, want %08x", c.text, got, c.want)
		}
	}
	if got := Sum(nil); got != 0 {
		t.Errorf("P5.1, R5: Sum(nil) %08x, want 0", got)
	}
}

func TestSumIsTheRemainder(t *testing.T) {
	for _, b := range inputs() {
		got := Sum(b)
		if want := reversedSum(b); got != want {
			t.Errorf("P5.1: Sum(%x) %08x, want %08x", b, got, want)
		}
		if len(b) > 300 {
			continue
		}
		if want := dividedSum(b); got != want {
			t.Errorf("P5.1: Sum(%x) %08x, want the remainder %08x", b, got, want)
		}
	}
}

func TestPutAppendsTheSum(t *testing.T) {
	for _, b := range inputs() {
		want := binary.BigEndian.AppendUint32(bytes.Clone(b), reversedSum(b))
		if got := Put(b); !bytes.Equal(got, want) {
			t.Errorf("P5.1: Put(%x) %x, want %x", b, got, want)
		}
	}
	if got := Put([]byte("123456789")); string(got) != "123456789\xfc\x89\x19\x18" {
		t.Errorf("P5.1: Put of the example %x", got)
	}
	for _, b := range [][]byte{nil, {}} {
		if got := Put(b); !bytes.Equal(got, make([]byte, 4)) {
			t.Errorf("P5.1, R5: Put(%#v) %x, want 00000000", b, got)
		}
	}
}

func TestRightOfWhatPutReturns(t *testing.T) {
	for _, b := range inputs() {
		whole := Put(b)
		if !Right(whole) {
			t.Errorf("P5.1: Right(Put(%x)) is false", b)
		}
		if again := Put(whole); !Right(again) {
			t.Errorf("P5.1: Right(Put(Put(%x))) is false", b)
		}
	}
}

func TestRightComparesTheLastFourBytes(t *testing.T) {
	for _, b := range inputs() {
		size := len(b) - 4
		want := size >= 0 && binary.BigEndian.Uint32(b[max(size, 0):]) == reversedSum(b[:max(size, 0)])
		if got := Right(b); got != want {
			t.Errorf("P5.1: Right(%x) %v, want %v", b, got, want)
		}
	}
	for _, c := range []struct {
		text string
		want bool
	}{
		{"\x00\x00\x00\x00", true},
		{"\x00\x00\x00\x01", false},
		{"\x80\x00\x00\x00", false},
		{"\xff\xff\xff\xff", false},
		{"\x00\xb1\xf7\x40\x4b", true},
		{"\x00\x4b\x40\xf7\xb1", false},
		{"\xb1\xf7\x40\x4b\x00", false},
		{"\x00\x00\xb1\xf7\x40\x4b", false},
		{"\x00\xb1\xf7\x40\x4b\x00", false},
		{"123456789\xfc\x89\x19\x18", true},
		{"123456789\x18\x19\x89\xfc", false},
		{"123456789\x03\x76\xe6\xe7", false},
		{"123456789", false},
		{"\xfc\x89\x19\x18123456789", false},
	} {
		if got := Right([]byte(c.text)); got != c.want {
			t.Errorf("P5.1: Right(%x) %v, want %v", c.text, got, c.want)
		}
	}
}

func TestRightOfFewerThanFourBytes(t *testing.T) {
	for _, b := range [][]byte{nil, {}, {0}, {0, 0}, {0, 0, 0}, {1, 2, 3}, {0xff, 0xff, 0xff}} {
		if Right(b) {
			t.Errorf("P5.1: Right(%#v) is true", b)
		}
	}
	for c := range 256 {
		if Right([]byte{byte(c)}) {
			t.Errorf("P5.1: Right of the byte %02x alone is true", c)
		}
	}
	// What is in the spare capacity does not belong to the bytes.
	for size := range 4 {
		if Right(make([]byte, 8)[:size]) {
			t.Errorf("P5.1: Right of %d bytes with spare capacity is true", size)
		}
	}
}

// changed returns b with bit from + k inverted for each k whose bit of mask is 1, the most significant one first, and whether there are all these bits.
func changed(b []byte, from int, mask uint32) ([]byte, bool) {
	result := bytes.Clone(b)
	for k := range 32 {
		if mask<<k>>31 == 0 {
			continue
		}
		at := from + k
		if at >= 8*len(b) {
			return nil, false
		}
		result[at/8] ^= 0x80 >> (at % 8)
	}
	return result, true
}

// wantWrong checks that a change of Put's result, if there is such a one, is noticed.
func wantWrong(t *testing.T, whole []byte, from int, mask uint32) {
	t.Helper()
	if other, ok := changed(whole, from, mask); ok && Right(other) {
		t.Errorf("P5.1: %x with the bits %08x from %d on changed is right", whole, mask, from)
	}
}

// wantOther checks that a change of bytes changes their sum.
func wantOther(t *testing.T, b []byte, from int, mask uint32) {
	t.Helper()
	if other, ok := changed(b, from, mask); ok && Sum(other) == Sum(b) {
		t.Errorf("P5.1: %x with the bits %08x from %d on changed has the same sum", b, mask, from)
	}
}

// messages have the lengths at which a change may lie in the bytes, in the sum, or in both.
func messages() [][]byte {
	s := source(2)
	return [][]byte{nil, {0}, {0xa5}, make([]byte, 3), s.bytes(4), []byte("123456789"), s.bytes(16), make([]byte, 64), s.bytes(64)}
}

// masks begin with a changed bit: one bit, two at every distance, runs of every length, and drawn ones.
func masks() []uint32 {
	const first = uint32(1) << 31
	list := []uint32{first, 0xffffffff, 0xaaaaaaaa, 0x82608edb}
	for k := range 31 {
		list = append(list, first|1<<k, ^uint32(0)<<k, first|1<<k|1)
	}
	s := source(3)
	for range 60 {
		list = append(list, first|uint32(s.below(1<<16))<<16|uint32(s.below(1<<16)))
	}
	return list
}

func TestChangesWithin32BitsAreNoticed(t *testing.T) {
	for _, b := range messages() {
		whole := Put(b)
		for from := range 8 * len(whole) {
			for _, mask := range masks() {
				wantWrong(t, whole, from, mask)
				wantOther(t, b, from, mask)
			}
		}
	}
}

func TestEveryChangeOfTwelveBitsIsNoticed(t *testing.T) {
	for _, b := range [][]byte{nil, {0x5a}, []byte("azul")} {
		whole := Put(b)
		for from := range 8 * len(whole) {
			for bits := 1; bits < 1<<12; bits++ {
				wantWrong(t, whole, from, uint32(bits)<<20)
			}
		}
	}
}

// The polynomial itself is the shortest change that no sum of 32 bits can notice: 33 bits.
func TestTheChangeOf33BitsThatStaysRight(t *testing.T) {
	for _, b := range messages() {
		whole := Put(b)
		for from := range 8*len(whole) - 32 {
			other, _ := changed(whole, from, 0x82608edb)
			if other, _ = changed(other, from+32, 1<<31); !Right(other) {
				t.Errorf("P5.1: %x with the polynomial's bits from %d on changed is wrong", whole, from)
			}
		}
	}
}

func TestArgumentsAreLeftAlone(t *testing.T) {
	for _, b := range inputs() {
		room := append(bytes.Clone(b), 0xee, 0xee, 0xee, 0xee, 0xee, 0xee)
		before := bytes.Clone(room)
		part := room[:len(b)]
		Sum(part)
		Right(part)
		result := Put(part)
		if !bytes.Equal(room, before) {
			t.Fatalf("R6: %x has become %x", before, room)
		}
		all := result[:cap(result)]
		for i := range all {
			all[i] ^= 0xff
		}
		if !bytes.Equal(room, before) {
			t.Fatalf("R6: the result of Put(%x) shares memory with its argument", b)
		}
	}
}

func TestResultsDependOnArgumentsOnly(t *testing.T) {
	b := []byte("123456789")
	first, second := Put(b), Put(b)
	first[0] ^= 1
	if string(second) != "123456789\xfc\x89\x19\x18" {
		t.Error("R6: two results of Put share memory")
	}
	for range 3 {
		if Sum(b) != 0xfc891918 || !Right(second) || Right(first) {
			t.Error("R8: a result depends on earlier calls")
		}
	}
}
