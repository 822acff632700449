package chk_test

import (
	"math"
	"math/big"
	"slices"
	"testing"

	"tabard/api"
	"tabard/chk"
)

const (
	least = math.MinInt64
	most  = math.MaxInt64
)

// edges are numbers at which results come near the ends of 64 bits: the ends, the powers of two and small numbers, with
// their neighbours, and two numbers whose product is just within and just beyond.
func edges() []int64 {
	list := []int64{least, least + 1, least + 2, most, most - 1, most - 2, 3037000499, 3037000500, -3037000499, -3037000500}
	for i := int64(-9); i <= 9; i++ {
		list = append(list, i)
	}
	for shift := 4; shift <= 62; shift++ {
		power := int64(1) << shift
		list = append(list, power-1, power, power+1, -power-1, -power, -power+1)
	}
	slices.Sort(list)
	return slices.Compact(list)
}

// within turns a result over all whole numbers into what a call has to answer.
func within(exact *big.Int) (int64, api.Errno) {
	if !exact.IsInt64() {
		return 0, api.ErrOver
	}
	return exact.Int64(), api.OK
}

// floorOf is the greatest whole number at most a / b, over all whole numbers.
func floorOf(a, b int64) *big.Int {
	top, bottom := big.NewInt(a), big.NewInt(b)
	if b < 0 {
		top.Neg(top)
		bottom.Neg(bottom)
	}
	// With a divisor above 0, Euclid's division is the one that goes down.
	return new(big.Int).Div(top, bottom)
}

type pair struct {
	a, b int64
	want int64
	err  api.Errno
}

func checkPairs(t *testing.T, name string, call func(a, b int64) (int64, api.Errno), pairs []pair) {
	t.Helper()
	for _, p := range pairs {
		if got, err := call(p.a, p.b); got != p.want || err != p.err {
			t.Errorf("%s(%d, %d) = %d, %d; want %d, %d", name, p.a, p.b, got, err, p.want, p.err)
		}
	}
}

func checkAgainst(t *testing.T, name string, call func(a, b int64) (int64, api.Errno), exact func(a, b int64) (int64, api.Errno)) {
	t.Helper()
	list := edges()
	for _, a := range list {
		for _, b := range list {
			want, wantErr := exact(a, b)
			if got, err := call(a, b); got != want || err != wantErr {
				t.Fatalf("%s(%d, %d) = %d, %d; want %d, %d", name, a, b, got, err, want, wantErr)
			}
		}
	}
}

func TestP1_1Add(t *testing.T) {
	checkPairs(t, "Add", chk.Add, []pair{
		{2, 3, 5, api.OK},
		{-2, -3, -5, api.OK},
		{most, 1, 0, api.ErrOver},
		{1, most, 0, api.ErrOver},
		{least, -1, 0, api.ErrOver},
		{-1, least, 0, api.ErrOver},
		{most, least, -1, api.OK},
		{most - 1, 1, most, api.OK},
		{least + 1, -1, least, api.OK},
		{most, 0, most, api.OK},
		{least, 0, least, api.OK},
		{most, most, 0, api.ErrOver},
		{least, least, 0, api.ErrOver},
	})
	checkAgainst(t, "Add", chk.Add, func(a, b int64) (int64, api.Errno) {
		return within(new(big.Int).Add(big.NewInt(a), big.NewInt(b)))
	})
}

func TestP1_1Sub(t *testing.T) {
	checkPairs(t, "Sub", chk.Sub, []pair{
		{5, 7, -2, api.OK},
		{0, least, 0, api.ErrOver},
		{-1, least, most, api.OK},
		{least, least, 0, api.OK},
		{least, 1, 0, api.ErrOver},
		{least + 1, 1, least, api.OK},
		{most, -1, 0, api.ErrOver},
		{most - 1, -1, most, api.OK},
		{-2, most, 0, api.ErrOver},
		{-1, most, least, api.OK},
	})
	checkAgainst(t, "Sub", chk.Sub, func(a, b int64) (int64, api.Errno) {
		return within(new(big.Int).Sub(big.NewInt(a), big.NewInt(b)))
	})
}

func TestP1_1Mul(t *testing.T) {
	checkPairs(t, "Mul", chk.Mul, []pair{
		{6, -7, -42, api.OK},
		{1 << 32, 1 << 31, 0, api.ErrOver},
		{-1 << 32, 1 << 31, least, api.OK},
		{1 << 31, -1 << 32, least, api.OK},
		{-1 << 32, -1 << 31, 0, api.ErrOver},
		{1 << 32, 1 << 32, 0, api.ErrOver},
		{least, -1, 0, api.ErrOver},
		{-1, least, 0, api.ErrOver},
		{least, 0, 0, api.OK},
		{0, least, 0, api.OK},
		{least, 1, least, api.OK},
		{1, least, least, api.OK},
		{most, -1, -most, api.OK},
		{most, 2, 0, api.ErrOver},
		{3037000499, 3037000499, 9223372030926249001, api.OK},
		{3037000500, 3037000500, 0, api.ErrOver},
	})
	checkAgainst(t, "Mul", chk.Mul, func(a, b int64) (int64, api.Errno) {
		return within(new(big.Int).Mul(big.NewInt(a), big.NewInt(b)))
	})
}

func TestP1_1NegAbs(t *testing.T) {
	for _, c := range []struct {
		a, neg, abs int64
		err, absErr api.Errno
	}{
		{0, 0, 0, api.OK, api.OK},
		{-7, 7, 7, api.OK, api.OK},
		{7, -7, 7, api.OK, api.OK},
		{most, -most, most, api.OK, api.OK},
		{least + 1, most, most, api.OK, api.OK},
		{least, 0, 0, api.ErrOver, api.ErrOver},
	} {
		if got, err := chk.Neg(c.a); got != c.neg || err != c.err {
			t.Errorf("Neg(%d) = %d, %d; want %d, %d", c.a, got, err, c.neg, c.err)
		}
		if got, err := chk.Abs(c.a); got != c.abs || err != c.absErr {
			t.Errorf("Abs(%d) = %d, %d; want %d, %d", c.a, got, err, c.abs, c.absErr)
		}
	}
	for _, a := range edges() {
		want, wantErr := within(new(big.Int).Neg(big.NewInt(a)))
		if got, err := chk.Neg(a); got != want || err != wantErr {
			t.Errorf("Neg(%d) = %d, %d; want %d, %d", a, got, err, want, wantErr)
		}
		want, wantErr = within(new(big.Int).Abs(big.NewInt(a)))
		if got, err := chk.Abs(a); got != want || err != wantErr {
			t.Errorf("Abs(%d) = %d, %d; want %d, %d", a, got, err, want, wantErr)
		}
	}
}

func TestP1_2Half(t *testing.T) {
	for _, c := range []struct{ a, want int64 }{
		{0, 0}, {1, 0}, {-1, -1}, {2, 1}, {-2, -1}, {7, 3}, {-7, -4},
		{most, 1<<62 - 1}, {least, -1 << 62}, {least + 1, -1 << 62},
	} {
		if got := chk.Half(c.a); got != c.want {
			t.Errorf("Half(%d) = %d; want %d", c.a, got, c.want)
		}
	}
	for _, a := range edges() {
		if got, want := chk.Half(a), floorOf(a, 2).Int64(); got != want {
			t.Errorf("Half(%d) = %d; want %d", a, got, want)
		}
		if floor, err := chk.Floor(a, 2); chk.Half(a) != floor || err != api.OK {
			t.Errorf("Half(%d) = %d, but Floor by 2 is %d, %d", a, chk.Half(a), floor, err)
		}
	}
}

func TestP1_3Rest(t *testing.T) {
	checkPairs(t, "Rest", chk.Rest, []pair{
		{7, 3, 1, api.OK},
		{-7, 3, 2, api.OK},
		{6, 3, 0, api.OK},
		{-6, 3, 0, api.OK},
		{5, 1, 0, api.OK},
		{-5, 1, 0, api.OK},
		{least, most, most - 1, api.OK},
		{most, most, 0, api.OK},
		{least, 1, 0, api.OK},
		{-1, most, most - 1, api.OK},
		{5, 0, 0, api.ErrRange},
		{5, -1, 0, api.ErrRange},
		{5, -3, 0, api.ErrRange},
		{least, least, 0, api.ErrRange},
		{0, 0, 0, api.ErrRange},
	})
	checkAgainst(t, "Rest", chk.Rest, func(a, m int64) (int64, api.Errno) {
		if m < 1 {
			return 0, api.ErrRange
		}
		return within(new(big.Int).Mod(big.NewInt(a), big.NewInt(m)))
	})
}

func TestP1_4Total(t *testing.T) {
	for _, c := range []struct {
		list []int64
		want int64
		err  api.Errno
	}{
		{nil, 0, api.OK},
		{[]int64{}, 0, api.OK},
		{[]int64{0}, 0, api.OK},
		{[]int64{3, -4}, 7, api.OK},
		{[]int64{-5, -6, 7}, 18, api.OK},
		{[]int64{most}, most, api.OK},
		{[]int64{-most}, most, api.OK},
		{[]int64{most, 0, 0}, most, api.OK},
		{[]int64{1 << 62, -(1<<62 - 1)}, most, api.OK},
		{[]int64{1 << 62, -1 << 62}, 0, api.ErrOver},
		{[]int64{most, -1}, 0, api.ErrOver},
		{[]int64{most, 1}, 0, api.ErrOver},
		{[]int64{-1, most}, 0, api.ErrOver},
		{[]int64{least}, 0, api.ErrOver},
		{[]int64{least, 1}, 0, api.ErrOver},
		{[]int64{1, least}, 0, api.ErrOver},
		{[]int64{least, least}, 0, api.ErrOver},
		// Over all whole numbers 2^64 + 1: what comes round must not be taken for a small sum.
		{[]int64{most, most, 3}, 0, api.ErrOver},
	} {
		if got, err := chk.Total(c.list); got != c.want || err != c.err {
			t.Errorf("Total(%v) = %d, %d; want %d, %d", c.list, got, err, c.want, c.err)
		}
	}
}

func TestP1_4TotalOfEdges(t *testing.T) {
	checkAgainst(t, "Total", func(a, b int64) (int64, api.Errno) {
		return chk.Total([]int64{a, b, -3})
	}, func(a, b int64) (int64, api.Errno) {
		sum := new(big.Int).Abs(big.NewInt(a))
		sum.Add(sum, new(big.Int).Abs(big.NewInt(b)))
		return within(sum.Add(sum, big.NewInt(3)))
	})
}

func TestTotalLeavesItsList(t *testing.T) {
	whole := []int64{-1, 2, -3, -4, least}
	before := slices.Clone(whole)
	if got, err := chk.Total(whole[:4]); got != 10 || err != api.OK {
		t.Errorf("Total = %d, %d; want 10, 0", got, err)
	}
	if !slices.Equal(whole, before) {
		t.Errorf("the list became %v, was %v", whole, before)
	}
}

func TestP1_5Floor(t *testing.T) {
	checkPairs(t, "Floor", chk.Floor, []pair{
		{7, 2, 3, api.OK},
		{-7, 2, -4, api.OK},
		{7, -2, -4, api.OK},
		{-7, -2, 3, api.OK},
		{6, -2, -3, api.OK},
		{-6, 2, -3, api.OK},
		{0, -5, 0, api.OK},
		{1, most, 0, api.OK},
		{-1, most, -1, api.OK},
		{1, least, -1, api.OK},
		{-1, least, 0, api.OK},
		{least, 1, least, api.OK},
		{least, least, 1, api.OK},
		{least, most, -2, api.OK},
		{most, least, -1, api.OK},
		{most, -1, -most, api.OK},
		{least + 1, -1, most, api.OK},
		{least, -1, 0, api.ErrOver},
		{1, 0, 0, api.ErrRange},
		{0, 0, 0, api.ErrRange},
		{least, 0, 0, api.ErrRange},
	})
	checkAgainst(t, "Floor", chk.Floor, func(a, b int64) (int64, api.Errno) {
		if b == 0 {
			return 0, api.ErrRange
		}
		return within(floorOf(a, b))
	})
}

func TestRestIsWhatFloorLeaves(t *testing.T) {
	checkAgainst(t, "Rest", chk.Rest, func(a, m int64) (int64, api.Errno) {
		floor, err := chk.Floor(a, m)
		if m < 1 {
			return 0, api.ErrRange
		}
		if err != api.OK {
			t.Fatalf("Floor(%d, %d): %d", a, m, err)
		}
		product := new(big.Int).Mul(big.NewInt(m), big.NewInt(floor))
		return within(new(big.Int).Sub(big.NewInt(a), product))
	})
}
