package bits_test

import (
	"math"
	"slices"
	"testing"

	"tabard/api"
	"tabard/bits"
)

const letters = 1 << api.MaxTracks

// digitsOf writes a letter out as its digits, the lowest first: the plain form that the calls are held against.
func digitsOf(letter int) []int {
	digits := make([]int, api.MaxTracks)
	for i := range digits {
		digits[i] = letter % 2
		letter /= 2
	}
	return digits
}

func letterOf(digits []int) int {
	letter := 0
	for i := len(digits) - 1; i >= 0; i-- {
		letter = 2*letter + digits[i]
	}
	return letter
}

func check(t *testing.T, what string, got int, err api.Errno, want int, wantErr api.Errno) {
	t.Helper()
	if got != want || err != wantErr {
		t.Errorf("%s = %d, %d; want %d, %d", what, got, err, want, wantErr)
	}
}

func TestP2_6Digit(t *testing.T) {
	for _, c := range []struct{ letter, track, want int }{
		{5, 0, 1}, {5, 1, 0}, {5, 2, 1}, {5, 3, 0}, {0, 0, 0},
		{-1, 0, 0}, {-1, 5, 0}, {math.MinInt, 3, 0}, {math.MinInt, 61, 0},
		{5, -1, 0}, {5, math.MinInt, 0}, {5, 99, 0}, {5, 62, 0}, {5, math.MaxInt, 0},
		{math.MaxInt, 0, 1}, {math.MaxInt, 61, 1}, {math.MaxInt, 62, 0}, {math.MaxInt, 63, 0}, {math.MaxInt, 64, 0}, {math.MaxInt, -1, 0},
		{1 << 61, 61, 1}, {1 << 61, 60, 0}, {1 << 62, 61, 0}, {1 << 62, 62, 0},
	} {
		if got := bits.Digit(c.letter, c.track); got != c.want {
			t.Errorf("Digit(%d, %d) = %d; want %d", c.letter, c.track, got, c.want)
		}
	}
	for letter := range letters {
		for track, digit := range digitsOf(letter) {
			if got := bits.Digit(letter, track); got != digit {
				t.Errorf("Digit(%d, %d) = %d; want %d", letter, track, got, digit)
			}
		}
	}
}

func TestP2_7Insert(t *testing.T) {
	for _, c := range []struct {
		letter, track, digit, want int
		err                        api.Errno
	}{
		{5, 1, 1, 11, api.OK}, {5, 0, 0, 10, api.OK}, {31, 5, 1, 63, api.OK}, {31, 5, 0, 31, api.OK}, {31, 0, 0, 62, api.OK},
		{32, 0, 0, 0, api.ErrRange}, {-1, 0, 0, 0, api.ErrRange}, {math.MaxInt, 0, 0, 0, api.ErrRange}, {math.MinInt, 0, 0, 0, api.ErrRange},
		{1, 6, 0, 0, api.ErrRange}, {1, -1, 0, 0, api.ErrRange}, {1, math.MaxInt, 0, 0, api.ErrRange}, {1, math.MinInt, 0, 0, api.ErrRange},
		{1, 0, 2, 0, api.ErrRange}, {1, 0, -1, 0, api.ErrRange}, {1, 0, math.MaxInt, 0, api.ErrRange}, {1, 0, math.MinInt, 0, api.ErrRange},
	} {
		got, err := bits.Insert(c.letter, c.track, c.digit)
		check(t, "Insert", got, err, c.want, c.err)
	}
	for letter := range letters / 2 {
		for track := range api.MaxTracks {
			for digit := range 2 {
				want := letterOf(slices.Insert(digitsOf(letter), track, digit))
				got, err := bits.Insert(letter, track, digit)
				check(t, "Insert", got, err, want, api.OK)
			}
		}
	}
}

func TestP2_8Remove(t *testing.T) {
	for _, c := range []struct {
		letter, track, want int
		err                 api.Errno
	}{
		{11, 1, 5, api.OK}, {63, 5, 31, api.OK}, {63, 0, 31, api.OK}, {32, 5, 0, api.OK},
		{64, 0, 0, api.ErrRange}, {-1, 0, 0, api.ErrRange}, {math.MaxInt, 0, 0, api.ErrRange}, {math.MinInt, 0, 0, api.ErrRange},
		{1, 6, 0, api.ErrRange}, {1, -1, 0, api.ErrRange}, {1, math.MaxInt, 0, api.ErrRange}, {1, math.MinInt, 0, api.ErrRange},
	} {
		got, err := bits.Remove(c.letter, c.track)
		check(t, "Remove", got, err, c.want, c.err)
	}
	for letter := range letters {
		for track := range api.MaxTracks {
			want := letterOf(slices.Delete(digitsOf(letter), track, track+1))
			got, err := bits.Remove(letter, track)
			check(t, "Remove", got, err, want, api.OK)
		}
	}
}

// eachPlaces hands on every list of 0 to 3 places, and every order of all six.
func eachPlaces(hand func(places []int)) {
	var add func(places []int, most int, twice bool)
	add = func(places []int, most int, twice bool) {
		hand(slices.Clone(places))
		if len(places) == most {
			return
		}
		for place := range api.MaxTracks {
			if twice || !slices.Contains(places, place) {
				add(append(places, place), most, twice)
			}
		}
	}
	add(nil, 3, true)
	add(nil, api.MaxTracks, false)
}

func TestP2_9Spread(t *testing.T) {
	for _, c := range []struct {
		letter int
		places []int
		want   int
		err    api.Errno
	}{
		{5, []int{2, 0, 1}, 6, api.OK}, {1, []int{3}, 8, api.OK}, {63, []int{5, 4, 3, 2, 1, 0}, 63, api.OK}, {1, []int{5, 4, 3, 2, 1, 0}, 32, api.OK},
		{0, nil, 0, api.OK}, {0, []int{}, 0, api.OK},
		{1, nil, 0, api.ErrRange}, {-1, nil, 0, api.ErrRange},
		{2, []int{3}, 0, api.ErrRange}, {-1, []int{3}, 0, api.ErrRange}, {64, []int{0, 1, 2, 3, 4, 5}, 0, api.ErrRange},
		{math.MaxInt, []int{3}, 0, api.ErrRange}, {math.MinInt, []int{3}, 0, api.ErrRange},
		{0, []int{6}, 0, api.ErrRange}, {0, []int{-1}, 0, api.ErrRange}, {0, []int{0, 1, 6}, 0, api.ErrRange},
		{0, []int{math.MaxInt}, 0, api.ErrRange}, {0, []int{math.MinInt}, 0, api.ErrRange},
		{0, []int{0, 1, 2, 3, 4, 5, 0}, 0, api.ErrRange}, {0, make([]int, 100), 0, api.ErrRange},
		{0, []int{1, 1}, 0, api.ErrTwice}, {3, []int{1, 1}, 0, api.ErrTwice}, {5, []int{2, 4, 2}, 0, api.ErrTwice}, {0, []int{0, 1, 2, 3, 4, 4}, 0, api.ErrTwice},
		// ErrRange is named first.
		{4, []int{1, 1}, 0, api.ErrRange}, {0, []int{1, 1, 6}, 0, api.ErrRange}, {0, []int{1, 1, -1}, 0, api.ErrRange}, {-1, []int{1, 1}, 0, api.ErrRange},
	} {
		got, err := bits.Spread(c.letter, c.places)
		check(t, "Spread", got, err, c.want, c.err)
	}
	eachPlaces(func(places []int) {
		for letter := range 1 << len(places) {
			want, wantErr := make([]int, api.MaxTracks), api.OK
			for i, place := range places {
				want[place] = digitsOf(letter)[i]
				if slices.Index(places, place) != i {
					wantErr = api.ErrTwice
				}
			}
			if wantErr != api.OK {
				clear(want)
			}
			got, err := bits.Spread(letter, places)
			check(t, "Spread", got, err, letterOf(want), wantErr)
		}
	})
}

func TestP2_10Gather(t *testing.T) {
	for _, c := range []struct {
		letter int
		places []int
		want   int
		err    api.Errno
	}{
		{6, []int{2, 0, 1}, 5, api.OK}, {8, []int{3, 3}, 3, api.OK}, {63, nil, 0, api.OK}, {63, []int{}, 0, api.OK},
		{32, []int{5, 5, 5, 5, 5, 5}, 63, api.OK}, {32, []int{5, 4, 3, 2, 1, 0}, 1, api.OK},
		{64, []int{0}, 0, api.ErrRange}, {-1, []int{0}, 0, api.ErrRange}, {64, nil, 0, api.ErrRange}, {-1, nil, 0, api.ErrRange},
		{math.MaxInt, []int{0}, 0, api.ErrRange}, {math.MinInt, []int{0}, 0, api.ErrRange},
		{1, []int{6}, 0, api.ErrRange}, {1, []int{-1}, 0, api.ErrRange}, {1, []int{0, 1, 6}, 0, api.ErrRange},
		{1, []int{math.MaxInt}, 0, api.ErrRange}, {1, []int{math.MinInt}, 0, api.ErrRange},
		{1, []int{0, 0, 0, 0, 0, 0, 0}, 0, api.ErrRange}, {1, make([]int, 100), 0, api.ErrRange},
	} {
		got, err := bits.Gather(c.letter, c.places)
		check(t, "Gather", got, err, c.want, c.err)
	}
	eachPlaces(func(places []int) {
		for letter := range letters {
			want := make([]int, api.MaxTracks)
			for i, place := range places {
				want[i] = digitsOf(letter)[place]
			}
			got, err := bits.Gather(letter, places)
			check(t, "Gather", got, err, letterOf(want), api.OK)
		}
	})
}

func TestSpreadAndGatherLeaveTheirPlaces(t *testing.T) {
	whole := []int{4, 2, 0, 1, 3, 5}
	before := slices.Clone(whole)
	bits.Spread(5, whole[:3])
	bits.Gather(5, whole[:3])
	if !slices.Equal(whole, before) {
		t.Errorf("the places became %v, were %v", whole, before)
	}
}
