package mesh

import (
	"math"
	"slices"
	"testing"

	"azulejo/api"
)

// source draws from a fixed sequence, so that every run has the same samples.
type source uint32

func (s *source) below(n int) int {
	*s = *s*1664525 + 1013904223
	return int(*s>>8) % n
}

func kinds() []Kind { return []Kind{List, Strip, Fan} }

// badKinds returns all kinds that there are not.
func badKinds() []Kind {
	var l []Kind
	for k := 3; k < 256; k++ {
		l = append(l, Kind(k))
	}
	return l
}

// count returns the indices 0 to n - 1.
func count(n int) []int {
	l := []int{}
	for i := range n {
		l = append(l, i)
	}
	return l
}

// with returns n indices, all 1 but the one at a place.
func with(n, at, index int) []int {
	l := slices.Repeat([]int{1}, n)
	l[at] = index
	return l
}

func wantCheck(t *testing.T, what string, k Kind, l []int, vertices int, err api.Errno) {
	t.Helper()
	if e := Check(k, l, vertices); e != err {
		t.Errorf("P10.1: %s: Check(%d, %v, %d) error %d, want %d", what, k, l, vertices, e, err)
	}
}

func wantTriangles(t *testing.T, what string, k Kind, l []int, want ...[3]int) {
	t.Helper()
	if got := Triangles(k, l); !slices.Equal(got, want) {
		t.Errorf("P10.1: %s: Triangles(%d, %v) %v, want %v", what, k, l, got, want)
	}
}

func TestNumbers(t *testing.T) {
	for n, k := range []Kind{List, Strip, Fan, Kinds} {
		if int(k) != n {
			t.Errorf("P10.1: Kind %d is numbered %d", n, k)
		}
	}
	if math.MaxUint8 != ^Kind(0) {
		t.Errorf("P10.1: the last Kind is %d", ^Kind(0))
	}
}

func TestChapterExample(t *testing.T) {
	wantTriangles(t, "the example", Strip, []int{0, 1, 2, 3}, [3]int{0, 1, 2}, [3]int{2, 1, 3})
	wantCheck(t, "the example", Strip, []int{0, 1, 2, 3}, 4, api.OK)
}

func TestCheckNumberOfIndices(t *testing.T) {
	ok, size, many := api.OK, api.ErrSize, api.ErrMany
	for _, c := range []struct {
		n    int
		want [3]api.Errno
	}{
		{0, [3]api.Errno{ok, ok, ok}},
		{1, [3]api.Errno{size, size, size}},
		{2, [3]api.Errno{size, size, size}},
		{3, [3]api.Errno{ok, ok, ok}},
		{4, [3]api.Errno{size, ok, ok}},
		{5, [3]api.Errno{size, ok, ok}},
		{6, [3]api.Errno{ok, ok, ok}},
		{93, [3]api.Errno{ok, ok, ok}},
		{94, [3]api.Errno{size, ok, ok}},
		{95, [3]api.Errno{size, ok, ok}},
		{96, [3]api.Errno{ok, ok, ok}},
		{97, [3]api.Errno{many, many, many}},
		{98, [3]api.Errno{many, many, many}},
		{99, [3]api.Errno{many, many, many}},
		{1000, [3]api.Errno{many, many, many}},
	} {
		for _, k := range kinds() {
			wantCheck(t, "so many indices", k, count(c.n), 1000, c.want[k])
			wantCheck(t, "so many that are the same", k, make([]int, c.n), 1, c.want[k])
		}
	}
}

func TestCheckNoIndices(t *testing.T) {
	for _, vertices := range []int{math.MinInt, math.MinInt + 1, -1, 0, 1, 64, math.MaxInt} {
		for _, k := range kinds() {
			wantCheck(t, "nil", k, nil, vertices, api.OK)
			wantCheck(t, "empty", k, []int{}, vertices, api.OK)
			wantCheck(t, "empty, with room", k, []int{9, 9, 9, 9}[:0], vertices, api.OK)
		}
	}
}

func TestCheckKind(t *testing.T) {
	for _, k := range badKinds() {
		wantCheck(t, "no such kind, nil", k, nil, 64, api.ErrKind)
		wantCheck(t, "no such kind, empty", k, []int{}, 64, api.ErrKind)
		wantCheck(t, "no such kind", k, []int{0, 1, 2}, 64, api.ErrKind)
	}
}

// One index is set at the first place, in the middle and at the last place, while the others are of vertices.
func TestCheckOneIndex(t *testing.T) {
	for _, k := range kinds() {
		for _, n := range []int{3, 6, 9, 96} {
			for _, at := range []int{0, 1, n / 2, n - 2, n - 1} {
				for _, vertices := range []int{2, 3, 64, 65, 1000} {
					for _, good := range []int{0, 1, vertices - 1} {
						wantCheck(t, "an index of a vertex", k, with(n, at, good), vertices, api.OK)
					}
					for _, bad := range []int{-1, -2, -64, -vertices, vertices, vertices + 1, 1 << 32, math.MinInt, math.MinInt + 1, math.MaxInt - 1, math.MaxInt} {
						wantCheck(t, "an index of no vertex", k, with(n, at, bad), vertices, api.ErrIndex)
					}
				}
			}
		}
	}
}

func TestCheckVertices(t *testing.T) {
	for _, k := range kinds() {
		for _, vertices := range []int{math.MinInt, math.MinInt + 1, -1 << 32, -64, -2, -1, 0} {
			for _, i := range []int{math.MinInt, vertices - 1, vertices, -1, 0, 1, math.MaxInt} {
				wantCheck(t, "no vertices", k, []int{i, i, i}, vertices, api.ErrIndex)
			}
		}
		wantCheck(t, "one vertex", k, []int{0, 0, 0}, 1, api.OK)
		wantCheck(t, "one vertex, and another index", k, []int{0, 0, 1}, 1, api.ErrIndex)
		wantCheck(t, "the most vertices", k, []int{0, math.MaxInt - 1, 63}, math.MaxInt, api.OK)
		wantCheck(t, "the most vertices, and one beyond", k, []int{0, math.MaxInt, 63}, math.MaxInt, api.ErrIndex)
	}
}

// Of more than one fault, the one that the chapter names first counts.
func TestCheckOrder(t *testing.T) {
	bad := func(n int) []int { return slices.Repeat([]int{-1}, n) }
	for _, k := range badKinds() {
		wantCheck(t, "kind and number", k, count(97), 1000, api.ErrKind)
		wantCheck(t, "kind and number", k, count(99), 1000, api.ErrKind)
		wantCheck(t, "kind and size", k, count(1), 1000, api.ErrKind)
		wantCheck(t, "kind and size", k, count(2), 1000, api.ErrKind)
		wantCheck(t, "kind and index", k, bad(3), 1000, api.ErrKind)
		wantCheck(t, "kind and index, no vertices", k, count(3), 0, api.ErrKind)
		wantCheck(t, "all faults", k, bad(98), -1, api.ErrKind)
	}
	for _, k := range kinds() {
		for _, n := range []int{97, 98, 99} {
			wantCheck(t, "number and, for a list of 97 or 98, size", k, count(n), 1000, api.ErrMany)
			wantCheck(t, "number and index", k, bad(n), 1000, api.ErrMany)
			wantCheck(t, "number and index, at the last place only", k, with(n, n-1, -1), 1000, api.ErrMany)
			wantCheck(t, "number and index, no vertices", k, count(n), 0, api.ErrMany)
		}
		for _, n := range []int{1, 2} {
			wantCheck(t, "size and index", k, bad(n), 1000, api.ErrSize)
			wantCheck(t, "size and index, no vertices", k, count(n), 0, api.ErrSize)
		}
	}
	wantCheck(t, "size and index", List, bad(95), 1000, api.ErrSize)
	wantCheck(t, "no size, but index", Strip, bad(95), 1000, api.ErrIndex)
	wantCheck(t, "no size, but index", Fan, bad(95), 1000, api.ErrIndex)
	wantCheck(t, "size and index beyond what is divided", List, []int{0, 1, 2, 64}, 64, api.ErrSize)
	wantCheck(t, "no size, but index", Strip, []int{0, 1, 2, 64}, 64, api.ErrIndex)
	wantCheck(t, "no size, but index", Fan, []int{0, 1, 2, 64}, 64, api.ErrIndex)
}

// modelCheck asks in the chapter's order, of one kind after the other.
func modelCheck(k, n, least, greatest, vertices int) api.Errno {
	sizes := []bool{n == 1 || n == 2 || n%3 != 0, n == 1 || n == 2, n == 1 || n == 2}
	if k > 2 {
		return api.ErrKind
	}
	if n > 96 {
		return api.ErrMany
	}
	if sizes[k] {
		return api.ErrSize
	}
	if n > 0 && (least < 0 || greatest >= vertices) {
		return api.ErrIndex
	}
	return api.OK
}

func TestCheckAgainstModel(t *testing.T) {
	s := source(7)
	seen := make([]int, 17)
	for range 60000 {
		k, n, vertices := s.below(4), s.below(110), s.below(66)-1
		if s.below(2) == 0 {
			n = s.below(12)
		}
		l := []int{}
		for range n {
			l = append(l, s.below(max(vertices, 1)))
		}
		if n > 0 && s.below(3) == 0 {
			l[s.below(n)] = s.below(140) - 70
		}
		least, greatest := 0, 0
		if n > 0 {
			least, greatest = slices.Min(l), slices.Max(l)
		}
		want := modelCheck(k, n, least, greatest, vertices)
		seen[want]++
		wantCheck(t, "any indices", Kind(k), l, vertices, want)
	}
	for _, e := range []api.Errno{api.OK, api.ErrKind, api.ErrMany, api.ErrSize, api.ErrIndex} {
		if seen[e] < 1000 {
			t.Errorf("error %d is drawn only %d times", e, seen[e])
		}
	}
}

func TestTrianglesOfLists(t *testing.T) {
	l := []int{10, 11, 12, 13, 14, 15, 16, 17}
	first, second := [3]int{10, 11, 12}, [3]int{13, 14, 15}
	wantTriangles(t, "nil", List, nil)
	wantTriangles(t, "none", List, l[:0])
	wantTriangles(t, "one left over, no triangle", List, l[:1])
	wantTriangles(t, "two left over, no triangle", List, l[:2])
	wantTriangles(t, "one triangle", List, l[:3], first)
	wantTriangles(t, "one left over", List, l[:4], first)
	wantTriangles(t, "two left over", List, l[:5], first)
	wantTriangles(t, "two triangles", List, l[:6], first, second)
	wantTriangles(t, "two triangles, one left over", List, l[:7], first, second)
	wantTriangles(t, "two triangles, two left over", List, l, first, second)
}

func TestTrianglesOfStrips(t *testing.T) {
	l := []int{10, 11, 12, 13, 14, 15, 16, 17}
	all := [][3]int{{10, 11, 12}, {12, 11, 13}, {12, 13, 14}, {14, 13, 15}, {14, 15, 16}, {16, 15, 17}}
	wantTriangles(t, "nil", Strip, nil)
	wantTriangles(t, "none", Strip, l[:0])
	wantTriangles(t, "one index", Strip, l[:1])
	wantTriangles(t, "two indices", Strip, l[:2])
	for n := 3; n <= len(l); n++ {
		wantTriangles(t, "a strip", Strip, l[:n], all[:n-2]...)
	}
}

func TestTrianglesOfFans(t *testing.T) {
	l := []int{10, 11, 12, 13, 14, 15, 16, 17}
	all := [][3]int{{10, 11, 12}, {10, 12, 13}, {10, 13, 14}, {10, 14, 15}, {10, 15, 16}, {10, 16, 17}}
	wantTriangles(t, "nil", Fan, nil)
	wantTriangles(t, "none", Fan, l[:0])
	wantTriangles(t, "one index", Fan, l[:1])
	wantTriangles(t, "two indices", Fan, l[:2])
	for n := 3; n <= len(l); n++ {
		wantTriangles(t, "a fan", Fan, l[:n], all[:n-2]...)
	}
}

func TestTrianglesOfNoKind(t *testing.T) {
	for _, k := range badKinds() {
		wantTriangles(t, "no such kind, nil", k, nil)
		for n := range 9 {
			wantTriangles(t, "no such kind", k, count(n))
		}
		wantTriangles(t, "no such kind, many indices", k, count(300))
	}
}

func TestTrianglesOfTheSame(t *testing.T) {
	wantTriangles(t, "all the same", List, []int{5, 5, 5, 5, 5, 5}, [3]int{5, 5, 5}, [3]int{5, 5, 5})
	wantTriangles(t, "all the same", Strip, []int{5, 5, 5, 5}, [3]int{5, 5, 5}, [3]int{5, 5, 5})
	wantTriangles(t, "all the same", Fan, []int{5, 5, 5, 5}, [3]int{5, 5, 5}, [3]int{5, 5, 5})
	wantTriangles(t, "some the same", List, []int{1, 1, 2, 2, 1, 2}, [3]int{1, 1, 2}, [3]int{2, 1, 2})
	wantTriangles(t, "some the same", Strip, []int{1, 1, 2, 2, 1}, [3]int{1, 1, 2}, [3]int{2, 1, 2}, [3]int{2, 2, 1})
	wantTriangles(t, "some the same", Fan, []int{1, 1, 2, 2, 1}, [3]int{1, 1, 2}, [3]int{1, 2, 2}, [3]int{1, 2, 1})
}

// Triangles does not ask whether there are such vertices.
func TestTrianglesOfNoVertices(t *testing.T) {
	least, most := math.MinInt, math.MaxInt
	l := []int{-1, least, most, 64, -65536}
	wantTriangles(t, "no vertices", List, l, [3]int{-1, least, most})
	wantTriangles(t, "no vertices", Strip, l, [3]int{-1, least, most}, [3]int{most, least, 64}, [3]int{most, 64, -65536})
	wantTriangles(t, "no vertices", Fan, l, [3]int{-1, least, most}, [3]int{-1, most, 64}, [3]int{-1, 64, -65536})
	for _, k := range kinds() {
		for _, n := range []int{least, least + 1, -1, 64, 1 << 32, most - 1, most} {
			wantTriangles(t, "one index", k, []int{n, n, n}, [3]int{n, n, n})
		}
	}
}

// modelAt is the triangle numbered n, counted out for each corner.
func modelAt(k Kind, l []int, n int) [3]int {
	switch k {
	case List:
		return [3]int{l[3*n], l[3*n+1], l[3*n+2]}
	case Strip:
		return [3]int{l[n+n%2], l[n+1-n%2], l[n+2]}
	}
	return [3]int{l[0], l[n+1], l[n+2]}
}

// modelTriangles has as many triangles as there are indices for.
func modelTriangles(k Kind, l []int) [][3]int {
	many := max(len(l)-2, 0)
	if k == List {
		many = len(l) / 3
	}
	var all [][3]int
	for n := range many {
		all = append(all, modelAt(k, l, n))
	}
	return all
}

func TestTrianglesOfMany(t *testing.T) {
	for _, k := range kinds() {
		for n := range 300 {
			l := count(n)
			wantTriangles(t, "so many indices", k, l, modelTriangles(k, l)...)
		}
		l := count(5000)
		wantTriangles(t, "a great many indices", k, l, modelTriangles(k, l)...)
	}
	if a, b, c := len(Triangles(List, count(99))), len(Triangles(Strip, count(99))), len(Triangles(Fan, count(99))); a != 33 || b != 97 || c != 97 {
		t.Errorf("P10.1: 99 indices are %d, %d and %d triangles", a, b, c)
	}
}

func TestTrianglesOfAnyIndices(t *testing.T) {
	s := source(12)
	for range 20000 {
		var l []int
		for range s.below(20) {
			l = append(l, s.below(12)-3)
		}
		k := kinds()[s.below(3)]
		wantTriangles(t, "any indices", k, l, modelTriangles(k, l)...)
	}
}

// Each list is a part of a longer one, so that its spare capacity is seen, too.
func TestArgumentsAreLeft(t *testing.T) {
	for k := range Kind(5) {
		for n := range 100 {
			whole := count(110)
			l := whole[:n]
			Check(k, l, 50)
			got := Triangles(k, l)
			if !slices.Equal(whole, count(110)) {
				t.Fatalf("P2: kind %d of %d indices: the argument was changed to %v", k, n, whole)
			}
			for i := range got {
				got[i] = [3]int{-7, -7, -7}
			}
			got = append(got, [3]int{-7, -7, -7})
			if !slices.Equal(whole, count(110)) {
				t.Fatalf("P2: kind %d of %d indices: the result shares the argument", k, n)
			}
		}
	}
}

func TestNothingIsKept(t *testing.T) {
	for _, k := range kinds() {
		for n := range 100 {
			l := count(n)
			first, second := Triangles(k, l), Triangles(k, l)
			want := modelTriangles(k, l)
			for i := range l {
				l[i] = -7
			}
			if !slices.Equal(first, want) {
				t.Fatalf("P2: kind %d of %d indices: the argument is kept", k, n)
			}
			for i := range first {
				first[i] = [3]int{-7, -7, -7}
			}
			if !slices.Equal(second, want) || !slices.Equal(Triangles(k, count(n)), want) {
				t.Fatalf("P2: kind %d of %d indices: two results share memory", k, n)
			}
		}
	}
}

func TestSameArgumentsSameResults(t *testing.T) {
	s := source(3)
	for range 5000 {
		var one, other []int
		for range s.below(100) {
			one = append(one, s.below(64))
			other = append(other, s.below(100)-9)
		}
		k, vertices := Kind(s.below(4)), s.below(65)
		err, all := Check(k, one, vertices), Triangles(k, one)
		Check(Kind(s.below(4)), other, s.below(65))
		Triangles(Kind(s.below(4)), other)
		if Check(k, one, vertices) != err || !slices.Equal(Triangles(k, one), all) {
			t.Fatalf("P2: other results of kind %d, %v", k, one)
		}
	}
}
