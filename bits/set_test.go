package bits_test

import (
	"math"
	"slices"
	"testing"

	"tabard/api"
	"tabard/bits"
)

// sizes stand at and beside the edges at which a set's inner parts may end.
var sizes = []int{0, 1, 2, 7, 8, 9, 31, 32, 33, 63, 64, 65, 70, 127, 128, 129, 256, api.MaxSet - 1, api.MaxSet}

func setOf(t *testing.T, size int, numbers ...int) *bits.Set {
	t.Helper()
	s, err := bits.New(size)
	if s == nil || err != api.OK {
		t.Fatalf("New(%d) = %v, %d", size, s, err)
	}
	for _, i := range numbers {
		if err := s.Put(i); err != api.OK {
			t.Fatalf("of size %d: Put(%d) = %d", size, i, err)
		}
	}
	return s
}

// checkSet holds all that a set tells of itself against the rising list of the numbers that must be in it.
func checkSet(t *testing.T, what string, s *bits.Set, size int, want []int) {
	t.Helper()
	if s.Size() != size || s.Count() != len(want) || !slices.Equal(s.List(), want) {
		t.Errorf("%s: size %d, count %d, list %v; want %d, %d, %v", what, s.Size(), s.Count(), s.List(), size, len(want), want)
	}
	for i := -2; i <= size+70; i++ {
		if s.Has(i) != slices.Contains(want, i) {
			t.Errorf("%s: Has(%d) = %v", what, i, s.Has(i))
		}
	}
}

func multiples(of, size int) []int {
	list := []int{}
	for i := 0; i < size; i += of {
		list = append(list, i)
	}
	return list
}

func TestP2_1New(t *testing.T) {
	for _, size := range []int{-1, -2, math.MinInt, api.MaxSet + 1, math.MaxInt} {
		if s, err := bits.New(size); s != nil || err != api.ErrRange {
			t.Errorf("New(%d) = %v, %d; want nil, ErrRange", size, s, err)
		}
	}
	for _, size := range sizes {
		checkSet(t, "new", setOf(t, size), size, nil)
	}
	a, b := setOf(t, 10), setOf(t, 10)
	a.Put(3)
	checkSet(t, "a second new set", b, 10, nil)
}

func TestP2_1Copy(t *testing.T) {
	for _, size := range sizes {
		numbers := multiples(3, size)
		s := setOf(t, size, numbers...)
		c := s.Copy()
		checkSet(t, "copy", c, size, numbers)
		for i := range size {
			c.Put(i)
		}
		checkSet(t, "the set whose copy was filled", s, size, numbers)
		for i := range size {
			s.Drop(i)
		}
		checkSet(t, "the copy whose set was emptied", c, size, multiples(1, size))
	}
}

func TestP2_2PutDropHas(t *testing.T) {
	for _, size := range sizes {
		s := setOf(t, size)
		for _, i := range []int{-1, -64, math.MinInt, size, size + 1, size + 64, math.MaxInt} {
			if err := s.Put(i); err != api.ErrRange {
				t.Errorf("of size %d: Put(%d) = %d; want ErrRange", size, i, err)
			}
			if err := s.Drop(i); err != api.ErrRange {
				t.Errorf("of size %d: Drop(%d) = %d; want ErrRange", size, i, err)
			}
			if s.Has(i) {
				t.Errorf("of size %d: Has(%d)", size, i)
			}
		}
		checkSet(t, "nothing put", s, size, nil)
		for _, i := range []int{0, size / 2, size - 1} {
			if size == 0 {
				break
			}
			if first, second := s.Put(i), s.Put(i); first != api.OK || second != api.OK {
				t.Errorf("of size %d: Put(%d) = %d, then %d", size, i, first, second)
			}
			checkSet(t, "one put", s, size, []int{i})
			if first, second := s.Drop(i), s.Drop(i); first != api.OK || second != api.OK {
				t.Errorf("of size %d: Drop(%d) = %d, then %d", size, i, first, second)
			}
			checkSet(t, "one dropped", s, size, nil)
		}
	}
	var none *bits.Set
	for _, i := range []int{-1, 0, 5} {
		if put, drop := none.Put(i), none.Drop(i); put != api.ErrNil || drop != api.ErrNil {
			t.Errorf("of nil: Put(%d) = %d, Drop(%d) = %d; want ErrNil", i, put, i, drop)
		}
	}
}

func TestP2_2CountList(t *testing.T) {
	s := setOf(t, 70)
	if s.Put(69) != api.OK || s.Put(70) != api.ErrRange || s.Put(3) != api.OK {
		t.Error("Put into a set of size 70")
	}
	checkSet(t, "the document's example", s, 70, []int{3, 69})
	for _, size := range sizes {
		s := setOf(t, size)
		for i := size - 1; i >= 0; i-- {
			s.Put(i)
		}
		checkSet(t, "all put", s, size, multiples(1, size))
		for i := range size {
			if i%5 != 0 {
				s.Drop(i)
			}
		}
		checkSet(t, "some dropped", s, size, multiples(5, size))
	}
	list := s.List()
	list[0] = 99
	_ = append(list[:1], 98)
	checkSet(t, "the set whose list was changed", s, 70, []int{3, 69})
}

func TestP2_3JoinMeetLess(t *testing.T) {
	for _, size := range sizes {
		twos, threes := multiples(2, size), multiples(3, size)
		var join, meet, less []int
		for i := range size {
			inTwos, inThrees := i%2 == 0, i%3 == 0
			if inTwos || inThrees {
				join = append(join, i)
			}
			if inTwos && inThrees {
				meet = append(meet, i)
			}
			if inTwos && !inThrees {
				less = append(less, i)
			}
		}
		for _, c := range []struct {
			name string
			call func(s, t *bits.Set) api.Errno
			want []int
			self []int
		}{
			{"Join", (*bits.Set).Join, join, twos},
			{"Meet", (*bits.Set).Meet, meet, twos},
			{"Less", (*bits.Set).Less, less, nil},
		} {
			s, u := setOf(t, size, twos...), setOf(t, size, threes...)
			if err := c.call(s, u); err != api.OK {
				t.Errorf("%s = %d", c.name, err)
			}
			checkSet(t, c.name, s, size, c.want)
			checkSet(t, c.name+": the other", u, size, threes)
			s = setOf(t, size, twos...)
			if err := c.call(s, s); err != api.OK {
				t.Errorf("%s with itself = %d", c.name, err)
			}
			checkSet(t, c.name+" with itself", s, size, c.self)
		}
	}
}

func TestP2_3WrongOther(t *testing.T) {
	for name, call := range map[string]func(s, t *bits.Set) api.Errno{
		"Join": (*bits.Set).Join, "Meet": (*bits.Set).Meet, "Less": (*bits.Set).Less,
	} {
		s, u := setOf(t, 70, 1, 2, 69), setOf(t, 71, 2, 3)
		if first, second := call(s, u), call(u, s); first != api.ErrShape || second != api.ErrShape {
			t.Errorf("%s of sizes 70 and 71 = %d, %d; want ErrShape", name, first, second)
		}
		if first, second, both := call(s, nil), call(nil, s), call(nil, nil); first != api.ErrNil || second != api.ErrNil || both != api.ErrNil {
			t.Errorf("%s of nil = %d, %d, %d; want ErrNil", name, first, second, both)
		}
		if err := call(setOf(t, 0), s); err != api.ErrShape {
			t.Errorf("%s of sizes 0 and 70 = %d; want ErrShape", name, err)
		}
		checkSet(t, name+" refused", s, 70, []int{1, 2, 69})
		checkSet(t, name+" refused: the other", u, 71, []int{2, 3})
	}
}

func TestP2_4SameKey(t *testing.T) {
	for _, size := range sizes {
		a, b := setOf(t, size), setOf(t, size)
		if !a.Same(b) || !a.Same(a) || a.Key() != b.Key() {
			t.Errorf("two empty sets of size %d are unlike", size)
		}
		for i := range size {
			a.Put(i)
			if a.Same(b) || b.Same(a) || a.Key() == b.Key() {
				t.Errorf("size %d: with %d and without it are the same", size, i)
			}
			b.Put(i)
			if !a.Same(b) || !b.Same(a) || a.Key() != b.Key() {
				t.Errorf("size %d: both with %d are unlike", size, i)
			}
		}
		// What was put and dropped again leaves no trace.
		for i := range size {
			a.Drop(i)
		}
		if fresh := setOf(t, size); !a.Same(fresh) || a.Key() != fresh.Key() {
			t.Errorf("size %d: an emptied set is unlike a new one", size)
		}
	}
	if a, b := setOf(t, 70, 3), setOf(t, 71, 3); a.Same(b) || b.Same(a) {
		t.Error("sets of sizes 70 and 71 are the same")
	}
	var none *bits.Set
	if s := setOf(t, 0); s.Same(nil) || none.Same(s) || none.Same(nil) {
		t.Error("nil is the same as something")
	}
}

func TestP2_4KeysOfAllSmallSets(t *testing.T) {
	const size = 10
	seen := map[string]int{}
	for numbers := range 1 << size {
		s := setOf(t, size)
		for i := range size {
			if numbers>>i&1 == 1 {
				s.Put(i)
			}
		}
		if other, ok := seen[s.Key()]; ok {
			t.Fatalf("the sets %b and %b share a key", other, numbers)
		}
		seen[s.Key()] = numbers
	}
}

func TestP2_4KeyStays(t *testing.T) {
	s := setOf(t, 70, 3)
	key := s.Key()
	s.Put(4)
	if key == s.Key() || key != setOf(t, 70, 3).Key() {
		t.Error("a key changed with its set")
	}
}

func TestP2_5Nil(t *testing.T) {
	var none *bits.Set
	if none.Size() != 0 || none.Count() != 0 || none.Has(0) || none.Has(-1) || len(none.List()) != 0 || none.Key() != "" || none.Copy() != nil {
		t.Error("a nil set tells of something")
	}
}
