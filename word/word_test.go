package word_test

import (
	"math"
	"math/big"
	"slices"
	"testing"

	"tabard/api"
	"tabard/word"
)

const (
	least = math.MinInt64
	most  = math.MaxInt64
)

// edges are the numbers at which one digit more is needed, with their neighbours, and small ones.
func edges() []int64 {
	list := []int64{least, least + 1, most, most - 1}
	for i := int64(-40); i <= 40; i++ {
		list = append(list, i)
	}
	for shift := 5; shift <= 62; shift++ {
		power := int64(1) << shift
		list = append(list, power-1, power, power+1, -power-1, -power, -power+1)
	}
	slices.Sort(list)
	return slices.Compact(list)
}

// tuples are lists of 0 to MaxTracks numbers, long ones beside short ones at every place.
func tuples() [][]int64 {
	list := [][]int64{nil, {}}
	numbers := edges()
	for size := 1; size <= api.MaxTracks; size++ {
		for i := range numbers {
			tuple := make([]int64, size)
			for j := range tuple {
				tuple[j] = numbers[(i*(j+1)+17*j)%len(numbers)]
			}
			list = append(list, tuple)
		}
	}
	return list
}

// valueOf is the sum by which the document says what digits mean, over all whole numbers.
func valueOf(digits []int) *big.Int {
	sum := new(big.Int)
	for i, digit := range digits {
		part := new(big.Int).Lsh(big.NewInt(int64(digit)), uint(i))
		if i == len(digits)-1 {
			part.Neg(part)
		}
		sum.Add(sum, part)
	}
	return sum
}

// lengthOf tries one length after the other against the range that the document gives.
func lengthOf(v int64) int {
	for n := 1; ; n++ {
		end := new(big.Int).Lsh(big.NewInt(1), uint(n-1))
		start := new(big.Int).Neg(end)
		if x := big.NewInt(v); x.Cmp(start) >= 0 && x.Cmp(end) < 0 {
			return n
		}
	}
}

func longestOf(tuple []int64) int {
	longest := 1
	for _, v := range tuple {
		longest = max(longest, lengthOf(v))
	}
	return longest
}

// trackOf writes out the digits of one track of a word.
func trackOf(letters []int, track int) []int {
	digits := []int{}
	for _, letter := range letters {
		for range track {
			letter /= 2
		}
		digits = append(digits, letter%2)
	}
	return digits
}

func repeat(number, times int) []int {
	return slices.Repeat([]int{number}, times)
}

func checkList(t *testing.T, what string, got []int, err api.Errno, want []int, wantErr api.Errno) {
	t.Helper()
	if !slices.Equal(got, want) || err != wantErr {
		t.Errorf("%s = %v, %d; want %v, %d", what, got, err, want, wantErr)
	}
}

func TestP3_1Length(t *testing.T) {
	for _, c := range []struct {
		v    int64
		want int
	}{
		{0, 1}, {-1, 1}, {1, 2}, {-2, 2}, {2, 3}, {3, 3}, {-3, 3}, {-4, 3}, {4, 4}, {-5, 4}, {7, 4}, {-8, 4}, {8, 5}, {-9, 5},
		{most, 64}, {least, 64}, {1 << 62, 64}, {1<<62 - 1, 63}, {-1 << 62, 63}, {-1<<62 - 1, 64},
	} {
		if got := word.Length(c.v); got != c.want {
			t.Errorf("Length(%d) = %d; want %d", c.v, got, c.want)
		}
	}
	for _, v := range edges() {
		if got, want := word.Length(v), lengthOf(v); got != want {
			t.Errorf("Length(%d) = %d; want %d", v, got, want)
		}
	}
}

func TestP3_1Longest(t *testing.T) {
	for _, c := range []struct {
		tuple []int64
		want  int
	}{
		{nil, 1}, {[]int64{}, 1}, {[]int64{0}, 1}, {[]int64{-1, 0}, 1}, {[]int64{1, -3}, 3}, {[]int64{-3, 1}, 3}, {[]int64{0, 5, 0}, 4},
		{[]int64{0, most, 0}, 64}, {[]int64{least, 0}, 64},
		// More numbers than there may be tracks.
		{[]int64{0, 0, 0, 0, 0, 0, 0, 0, 9}, 5},
	} {
		if got := word.Longest(c.tuple); got != c.want {
			t.Errorf("Longest(%v) = %d; want %d", c.tuple, got, c.want)
		}
	}
	for _, tuple := range tuples() {
		if got, want := word.Longest(tuple), longestOf(tuple); got != want {
			t.Errorf("Longest(%v) = %d; want %d", tuple, got, want)
		}
	}
}

func TestP3_2Digits(t *testing.T) {
	for _, c := range []struct {
		v    int64
		n    int
		want []int
		err  api.Errno
	}{
		{5, 4, []int{1, 0, 1, 0}, api.OK}, {5, 6, []int{1, 0, 1, 0, 0, 0}, api.OK},
		{-5, 4, []int{1, 1, 0, 1}, api.OK}, {-5, 6, []int{1, 1, 0, 1, 1, 1}, api.OK},
		{0, 1, []int{0}, api.OK}, {-1, 1, []int{1}, api.OK}, {1, 2, []int{1, 0}, api.OK}, {-2, 2, []int{0, 1}, api.OK},
		{0, 64, repeat(0, 64), api.OK}, {-1, 64, repeat(1, 64), api.OK},
		{most, 64, append(repeat(1, 63), 0), api.OK}, {least, 64, append(repeat(0, 63), 1), api.OK},
		{5, 3, nil, api.ErrRange}, {-5, 3, nil, api.ErrRange}, {0, 0, nil, api.ErrRange}, {0, -1, nil, api.ErrRange},
		{0, 65, nil, api.ErrRange}, {most, 63, nil, api.ErrRange}, {least, 63, nil, api.ErrRange}, {most, 65, nil, api.ErrRange},
		{0, math.MaxInt, nil, api.ErrRange}, {0, math.MinInt, nil, api.ErrRange},
	} {
		got, err := word.Digits(c.v, c.n)
		checkList(t, "Digits", got, err, c.want, c.err)
	}
}

func TestP3_2DigitsOfEdges(t *testing.T) {
	for _, v := range edges() {
		for n := -1; n <= api.MaxWord+2; n++ {
			digits, err := word.Digits(v, n)
			if n < lengthOf(v) || n > api.MaxWord {
				checkList(t, "Digits", digits, err, nil, api.ErrRange)
				continue
			}
			if err != api.OK || len(digits) != n || valueOf(digits).Cmp(big.NewInt(v)) != 0 {
				t.Errorf("Digits(%d, %d) = %v, %d", v, n, digits, err)
			}
			if slices.Max(digits) > 1 || slices.Min(digits) < 0 {
				t.Errorf("Digits(%d, %d) = %v: not all digits", v, n, digits)
			}
		}
	}
}

func TestP3_3Number(t *testing.T) {
	for _, c := range []struct {
		digits []int
		want   int64
		err    api.Errno
	}{
		{[]int{1, 0, 1, 0}, 5, api.OK}, {[]int{1, 1, 0, 1}, -5, api.OK}, {[]int{1}, -1, api.OK}, {[]int{0}, 0, api.OK},
		{[]int{1, 0}, 1, api.OK}, {[]int{0, 1}, -2, api.OK}, {[]int{1, 1, 1}, -1, api.OK}, {[]int{0, 0, 0}, 0, api.OK},
		{repeat(1, 64), -1, api.OK}, {repeat(0, 64), 0, api.OK},
		{append(repeat(1, 63), 0), most, api.OK}, {append(repeat(0, 63), 1), least, api.OK},
		{append(repeat(1, 62), 0), 1<<62 - 1, api.OK}, {append(repeat(0, 62), 1), -1 << 62, api.OK},
		{nil, 0, api.ErrShape}, {[]int{}, 0, api.ErrShape}, {[]int{2}, 0, api.ErrShape}, {[]int{-1}, 0, api.ErrShape},
		{[]int{2, 0, 0}, 0, api.ErrShape}, {[]int{0, -1, 0}, 0, api.ErrShape}, {[]int{0, 0, 3}, 0, api.ErrShape},
		{[]int{math.MaxInt, 0}, 0, api.ErrShape}, {[]int{math.MinInt, 0}, 0, api.ErrShape},
		{repeat(0, 65), 0, api.ErrWide}, {repeat(1, 65), 0, api.ErrWide}, {repeat(0, 1000), 0, api.ErrWide},
		// ErrShape is named first.
		{append([]int{2}, repeat(0, 64)...), 0, api.ErrShape}, {append(repeat(0, 64), 2), 0, api.ErrShape}, {repeat(-1, 100), 0, api.ErrShape},
	} {
		if got, err := word.Number(c.digits); got != c.want || err != c.err {
			t.Errorf("Number(%v) = %d, %d; want %d, %d", c.digits, got, err, c.want, c.err)
		}
	}
}

func TestP3_3NumberOfAllShortDigits(t *testing.T) {
	for n := 1; n <= 12; n++ {
		for letter := range 1 << n {
			digits := make([]int, n)
			for i := range digits {
				digits[i] = letter >> i & 1
			}
			got, err := word.Number(digits)
			if want := valueOf(digits).Int64(); got != want || err != api.OK {
				t.Errorf("Number(%v) = %d, %d; want %d", digits, got, err, want)
			}
		}
	}
}

func TestP3_3NumberOfDigits(t *testing.T) {
	for _, v := range edges() {
		for n := lengthOf(v); n <= api.MaxWord; n++ {
			digits, _ := word.Digits(v, n)
			if got, err := word.Number(digits); got != v || err != api.OK {
				t.Errorf("Number(Digits(%d, %d)) = %d, %d", v, n, got, err)
			}
		}
	}
}

func TestP3_4Encode(t *testing.T) {
	seven := make([]int64, 7)
	for _, c := range []struct {
		tuple []int64
		n     int
		want  []int
		err   api.Errno
	}{
		{[]int64{1, 2}, 3, []int{1, 2, 0}, api.OK}, {[]int64{1, 2}, 5, []int{1, 2, 0, 0, 0}, api.OK},
		{[]int64{1, -3}, 4, []int{3, 0, 2, 2}, api.OK}, {[]int64{-1, -1, -1, -1, -1, -1}, 2, []int{63, 63}, api.OK},
		{[]int64{0, 0, 0, 0, 0, -1}, 1, []int{32}, api.OK},
		{nil, 1, []int{0}, api.OK}, {[]int64{}, 64, repeat(0, 64), api.OK},
		{[]int64{least, most}, 64, append(repeat(2, 63), 1), api.OK},
		{[]int64{7}, 3, nil, api.ErrRange}, {[]int64{0, 7}, 3, nil, api.ErrRange}, {[]int64{7}, 65, nil, api.ErrRange},
		{nil, 0, nil, api.ErrRange}, {nil, 65, nil, api.ErrRange}, {nil, -1, nil, api.ErrRange},
		{[]int64{most}, 63, nil, api.ErrRange}, {[]int64{least}, 65, nil, api.ErrRange},
		{nil, math.MaxInt, nil, api.ErrRange}, {nil, math.MinInt, nil, api.ErrRange},
		{seven, 3, nil, api.ErrTracks}, {make([]int64, 100), 3, nil, api.ErrTracks},
		// ErrTracks is named first.
		{seven, 0, nil, api.ErrTracks}, {seven, 65, nil, api.ErrTracks}, {append(seven, most), 5, nil, api.ErrTracks},
	} {
		got, err := word.Encode(c.tuple, c.n)
		checkList(t, "Encode", got, err, c.want, c.err)
	}
}

// checkWord holds a word against the tuple that it must have, track by track.
func checkWord(t *testing.T, letters []int, n int, tuple []int64) {
	t.Helper()
	if len(letters) != n || slices.Min(letters) < 0 || slices.Max(letters) >= 1<<len(tuple) {
		t.Fatalf("the word of %v is %v", tuple, letters)
	}
	for track, v := range tuple {
		if valueOf(trackOf(letters, track)).Cmp(big.NewInt(v)) != 0 {
			t.Errorf("the word of %v is %v", tuple, letters)
		}
	}
}

func TestP3_4EncodeOfTuples(t *testing.T) {
	for _, tuple := range tuples() {
		longest := longestOf(tuple)
		for _, n := range []int{longest - 1, longest, longest + 1, longest + 2, api.MaxWord, api.MaxWord + 1} {
			letters, err := word.Encode(tuple, n)
			if n < longest || n > api.MaxWord {
				checkList(t, "Encode", letters, err, nil, api.ErrRange)
				continue
			}
			if err != api.OK {
				t.Fatalf("Encode(%v, %d) = %d", tuple, n, err)
			}
			checkWord(t, letters, n, tuple)
		}
	}
}

func TestP3_4Shortest(t *testing.T) {
	for _, c := range []struct {
		tuple []int64
		want  []int
		err   api.Errno
	}{
		{[]int64{1, -3}, []int{3, 0, 2}, api.OK}, {nil, []int{0}, api.OK}, {[]int64{}, []int{0}, api.OK}, {[]int64{0}, []int{0}, api.OK},
		{[]int64{-1}, []int{1}, api.OK}, {[]int64{6}, []int{0, 1, 1, 0}, api.OK}, {[]int64{5}, []int{1, 0, 1, 0}, api.OK},
		{[]int64{2, 1}, []int{2, 1, 0}, api.OK}, {[]int64{least}, append(repeat(0, 63), 1), api.OK},
		{make([]int64, 7), nil, api.ErrTracks}, {[]int64{most, least, most, least, most, least, most}, nil, api.ErrTracks},
	} {
		got, err := word.Shortest(c.tuple)
		checkList(t, "Shortest", got, err, c.want, c.err)
	}
	for _, tuple := range tuples() {
		letters, err := word.Shortest(tuple)
		if err != api.OK {
			t.Fatalf("Shortest(%v) = %d", tuple, err)
		}
		checkWord(t, letters, longestOf(tuple), tuple)
	}
}

func TestP3_5Decode(t *testing.T) {
	for _, c := range []struct {
		letters []int
		tracks  int
		want    []int64
		err     api.Errno
	}{
		{[]int{1, 2, 0}, 2, []int64{1, 2}, api.OK}, {[]int{1, 2, 0}, 3, []int64{1, 2, 0}, api.OK}, {[]int{3, 0, 2, 2}, 2, []int64{1, -3}, api.OK},
		{[]int{0}, 0, nil, api.OK}, {repeat(0, 64), 0, nil, api.OK}, {[]int{63}, 6, []int64{-1, -1, -1, -1, -1, -1}, api.OK},
		{append(repeat(2, 63), 1), 2, []int64{least, most}, api.OK},
		{[]int{1}, 0, nil, api.ErrLetter}, {[]int{-1}, 0, nil, api.ErrLetter}, {[]int{0, 4}, 2, nil, api.ErrLetter}, {[]int{4, 0}, 2, nil, api.ErrLetter},
		{[]int{64}, 6, nil, api.ErrLetter}, {[]int{0, -1, 0}, 6, nil, api.ErrLetter},
		{[]int{math.MaxInt}, 6, nil, api.ErrLetter}, {[]int{math.MinInt}, 6, nil, api.ErrLetter},
		{repeat(0, 65), 2, nil, api.ErrWide}, {repeat(0, 65), 0, nil, api.ErrWide}, {repeat(0, 1000), 6, nil, api.ErrWide},
		{nil, 0, nil, api.ErrShape}, {[]int{}, 6, nil, api.ErrShape},
		{[]int{0}, -1, nil, api.ErrTracks}, {[]int{0}, 7, nil, api.ErrTracks}, {[]int{0}, math.MaxInt, nil, api.ErrTracks}, {[]int{0}, math.MinInt, nil, api.ErrTracks},
		// The error that is named first.
		{nil, 9, nil, api.ErrTracks}, {nil, -1, nil, api.ErrTracks}, {repeat(0, 65), 7, nil, api.ErrTracks}, {[]int{-1}, 7, nil, api.ErrTracks},
		{repeat(9, 65), 2, nil, api.ErrWide},
	} {
		got, err := word.Decode(c.letters, c.tracks)
		if !slices.Equal(got, c.want) || err != c.err {
			t.Errorf("Decode(%v, %d) = %v, %d; want %v, %d", c.letters, c.tracks, got, err, c.want, c.err)
		}
	}
}

func TestP3_5DecodeOfAllShortWords(t *testing.T) {
	for tracks := range 4 {
		var add func(letters []int)
		add = func(letters []int) {
			if len(letters) > 0 {
				got, err := word.Decode(letters, tracks)
				if err != api.OK || len(got) != tracks {
					t.Fatalf("Decode(%v, %d) = %v, %d", letters, tracks, got, err)
				}
				for track, v := range got {
					if valueOf(trackOf(letters, track)).Cmp(big.NewInt(v)) != 0 {
						t.Errorf("Decode(%v, %d) = %v", letters, tracks, got)
					}
				}
			}
			for letter := range 1 << tracks {
				if len(letters) < 4 {
					add(append(letters, letter))
				}
			}
		}
		add(nil)
	}
}

func TestP3_5DecodeOfEncode(t *testing.T) {
	for _, tuple := range tuples() {
		for n := longestOf(tuple); n <= api.MaxWord; n += 7 {
			letters, _ := word.Encode(tuple, n)
			if got, err := word.Decode(letters, len(tuple)); !slices.Equal(got, tuple) || err != api.OK {
				t.Errorf("Decode(Encode(%v, %d)) = %v, %d", tuple, n, got, err)
			}
		}
	}
}

func TestP3_6Trim(t *testing.T) {
	for _, c := range []struct{ letters, want []int }{
		{[]int{1, 2, 0, 0, 0}, []int{1, 2, 0}}, {[]int{3, 3}, []int{3}}, {nil, nil}, {[]int{}, nil}, {[]int{0}, []int{0}}, {[]int{7}, []int{7}},
		{[]int{0, 0, 0, 0}, []int{0}}, {[]int{1, 1, 2}, []int{1, 1, 2}}, {[]int{1, 1, 2, 2}, []int{1, 1, 2}}, {[]int{0, 1, 0}, []int{0, 1, 0}},
		{[]int{-5, -5, -5}, []int{-5}}, {[]int{math.MinInt, math.MaxInt, math.MaxInt}, []int{math.MinInt, math.MaxInt}}, {[]int{1, -1}, []int{1, -1}},
		{repeat(9, 1000), []int{9}}, {append([]int{64}, repeat(9, 1000)...), []int{64, 9}},
	} {
		checkList(t, "Trim", word.Trim(c.letters), api.OK, c.want, api.OK)
	}
	for _, tuple := range tuples() {
		shortest, _ := word.Shortest(tuple)
		for n := longestOf(tuple); n <= api.MaxWord; n += 5 {
			letters, _ := word.Encode(tuple, n)
			checkList(t, "Trim of a word of a tuple", word.Trim(letters), api.OK, shortest, api.OK)
		}
	}
}

func TestP3_7Compare(t *testing.T) {
	// Each stands ahead of the next ones.
	rising := [][]int{
		nil,
		{math.MinInt}, {-1}, {0}, {7}, {math.MaxInt},
		{-2, 9}, {0, 0}, {0, 1}, {1, 0}, {1, 2}, {1, 3},
		{math.MinInt, 0, math.MaxInt}, {0, 1, 0}, {1, 2, -1}, {1, 2, 0}, {2, 1, 0}, {math.MaxInt, 0, math.MinInt},
		{0, 0, 0, 0}, repeat(0, 65), repeat(1, 65), repeat(0, 66),
	}
	for i, a := range rising {
		for j, b := range rising {
			want := 0
			if i < j {
				want = -1
			} else if i > j {
				want = 1
			}
			if got := word.Compare(slices.Clone(a), b); got != want {
				t.Errorf("Compare(%v, %v) = %d; want %d", a, b, got, want)
			}
		}
	}
	if word.Compare([]int{}, nil) != 0 || word.Compare(nil, []int{}) != 0 {
		t.Error("no letters and no letters are unlike")
	}
}

func TestCallsLeaveTheirLists(t *testing.T) {
	letters := []int{1, 0, 1, 1, 1, 0}
	lettersBefore := slices.Clone(letters)
	tuple := []int64{3, -4, 5, 6}
	tupleBefore := slices.Clone(tuple)
	word.Longest(tuple[:2])
	word.Encode(tuple[:2], 9)
	word.Shortest(tuple[:2])
	word.Number(letters[:5])
	word.Decode(letters[:5], 1)
	word.Compare(letters[:5], letters[:4])
	trimmed := word.Trim(letters[:5])
	untrimmed := word.Trim(letters[:3])
	for _, list := range [][]int{trimmed, untrimmed} {
		whole := list[:cap(list)]
		for i := range whole {
			whole[i] = 99
		}
	}
	if !slices.Equal(letters, lettersBefore) || !slices.Equal(tuple, tupleBefore) {
		t.Errorf("the lists became %v, %v; were %v, %v", letters, tuple, lettersBefore, tupleBefore)
	}
}
