package row_test

import (
	"cmp"
	"fmt"
	"math"
	"math/rand/v2"
	"slices"
	"testing"

	"tabard/api"
	"tabard/row"
)

const letters = 1 << api.MaxTracks

func cube(mask, bits, to int) api.Cube { return api.Cube{Mask: mask, Bits: bits, To: to} }

// asks tells whether the tree of the row asks the track on the way to the letter: whether, with the letter's digits
// above the track, the digit 0 there and the digit 1 lead to unlike rows over the tracks below.
func asks(r []int, letter, track int) bool {
	power := 1 << track
	from := letter / (2 * power) * (2 * power)
	for below := range power {
		if r[from+below] != r[from+power+below] {
			return true
		}
	}
	return false
}

// cubesOf finds the leaf of each letter for itself, track by track, without the tree.
func cubesOf(r []int) []api.Cube {
	seen := map[api.Cube]bool{}
	for letter, to := range r {
		leaf := cube(0, 0, to)
		for track := 0; 1<<track < len(r); track++ {
			if !asks(r, letter, track) {
				continue
			}
			leaf.Mask += 1 << track
			if letter>>track%2 == 1 {
				leaf.Bits += 1 << track
			}
		}
		seen[leaf] = true
	}
	var list []api.Cube
	for leaf := range seen {
		list = append(list, leaf)
	}
	slices.SortFunc(list, func(a, b api.Cube) int { return cmp.Compare(a.Bits, b.Bits) })
	return list
}

// eachRow makes all rows over so many tracks with states below that number.
func eachRow(tracks, states int, do func(r []int)) {
	r := make([]int, 1<<tracks)
	var fill func(i int)
	fill = func(i int) {
		if i == len(r) {
			do(r)
			return
		}
		for to := range states {
			r[i] = to
			fill(i + 1)
		}
	}
	fill(0)
}

// madeRow makes a row by chance whose halves are the same now and then, at any depth.
func madeRow(chance *rand.Rand, tracks, states int) []int {
	if tracks == 0 {
		return []int{chance.IntN(states)}
	}
	lower := madeRow(chance, tracks-1, states)
	upper := slices.Clone(lower)
	switch chance.IntN(4) {
	case 0:
	case 1:
		upper[chance.IntN(len(upper))] = chance.IntN(states)
	default:
		upper = madeRow(chance, tracks-1, states)
	}
	return append(lower, upper...)
}

// madeRows hands on some thousand rows made by chance, the same ones at each call.
func madeRows(do func(chance *rand.Rand, r []int, tracks int)) {
	chance := rand.New(rand.NewPCG(11, 1))
	for i := range 6000 {
		tracks := i % (api.MaxTracks + 1)
		do(chance, madeRow(chance, tracks, 1+chance.IntN(9)), tracks)
	}
}

// parity is the row of the digits' sum, of which each letter is a leaf.
func parity(tracks int) []int {
	r := make([]int, 1<<tracks)
	for letter := range r {
		for track := range tracks {
			r[letter] ^= letter >> track & 1
		}
	}
	return r
}

// rightRow holds all that the package tells of a row against its cubes, which are found otherwise.
func rightRow(t *testing.T, r []int, tracks int, want []api.Cube) {
	t.Helper()
	if n, err := row.Leaves(r); n != len(want) || err != api.OK {
		t.Errorf("Leaves(%v) = %d, %d; want %d, OK", r, n, err, len(want))
	}
	if got, err := row.Pack(r); !slices.Equal(got, want) || err != api.OK {
		t.Errorf("Pack(%v) = %v, %d; want %v, OK", r, got, err, want)
	}
	if got, err := row.Unpack(want, tracks); !slices.Equal(got, r) || err != api.OK {
		t.Errorf("Unpack(%v, %d) = %v, %d; want %v, OK", want, tracks, got, err, r)
	}
	greatest := slices.Max(r)
	for _, states := range []int{math.MinInt, -1, 0, 1, greatest - 1, greatest, greatest + 1, greatest + 2, math.MaxInt} {
		if got := row.Right(want, tracks, states); got != (greatest < states) {
			t.Errorf("Right(%v, %d, %d) = %v", want, tracks, states, got)
		}
	}
	for letter, to := range r {
		if got, ok := row.At(want, letter); got != to || !ok {
			t.Errorf("At(%v, %d) = %d, %v; want %d, true", want, letter, got, ok, to)
		}
	}
}

// wrongCubes looks that the cubes are those of no row over so many tracks.
func wrongCubes(t *testing.T, cubes []api.Cube, tracks int) {
	t.Helper()
	if got, err := row.Unpack(cubes, tracks); len(got) != 0 || err != api.ErrShape {
		t.Errorf("Unpack(%v, %d) = %v, %d; want ErrShape", cubes, tracks, got, err)
	}
	if row.Right(cubes, tracks, math.MaxInt) {
		t.Errorf("Right(%v, %d, ..)", cubes, tracks)
	}
}

func TestP11_1Examples(t *testing.T) {
	for _, c := range []struct {
		row  []int
		want []api.Cube
	}{
		{[]int{4}, []api.Cube{cube(0, 0, 4)}},
		{[]int{0}, []api.Cube{cube(0, 0, 0)}},
		{[]int{math.MaxInt}, []api.Cube{cube(0, 0, math.MaxInt)}},
		{[]int{1, 1, 1, 1}, []api.Cube{cube(0, 0, 1)}},
		{[]int{1, 2, 1, 2}, []api.Cube{cube(1, 0, 1), cube(1, 1, 2)}},
		{[]int{1, 1, 2, 2}, []api.Cube{cube(2, 0, 1), cube(2, 2, 2)}},
		{[]int{1, 2, 2, 1}, []api.Cube{cube(3, 0, 1), cube(3, 1, 2), cube(3, 2, 2), cube(3, 3, 1)}},
		{[]int{1, 1, 2, 3}, []api.Cube{cube(2, 0, 1), cube(3, 2, 2), cube(3, 3, 3)}},
		{[]int{2, 3, 1, 1}, []api.Cube{cube(3, 0, 2), cube(3, 1, 3), cube(2, 2, 1)}},
		// A track that only one side asks, with one below it that both do.
		{[]int{1, 2, 1, 2, 1, 2, 3, 2}, []api.Cube{cube(5, 0, 1), cube(5, 1, 2), cube(7, 4, 1), cube(7, 5, 2), cube(7, 6, 3), cube(7, 7, 2)}},
	} {
		if got, err := row.Pack(c.row); !slices.Equal(got, c.want) || err != api.OK {
			t.Errorf("Pack(%v) = %v, %d; want %v, OK", c.row, got, err, c.want)
		}
		if n, err := row.Leaves(c.row); n != len(c.want) || err != api.OK {
			t.Errorf("Leaves(%v) = %d, %d; want %d, OK", c.row, n, err, len(c.want))
		}
	}
	if n, err := row.Leaves([]int{0, 1, 1, 0, 1, 0, 0, 1}); n != 8 || err != api.OK {
		t.Errorf("Leaves of the digits' sum = %d, %d; want 8, OK", n, err)
	}
}

func wrongRow(t *testing.T, r []int) {
	t.Helper()
	if n, err := row.Leaves(r); n != 0 || err != api.ErrShape {
		t.Errorf("Leaves(%v) = %d, %d; want ErrShape", r, n, err)
	}
	if cubes, err := row.Pack(r); len(cubes) != 0 || err != api.ErrShape {
		t.Errorf("Pack(%v) = %v, %d; want ErrShape", r, cubes, err)
	}
}

func TestP11_1WrongLength(t *testing.T) {
	wrongRow(t, nil)
	lengths := []int{128, 256, 1 << 16, 1 << 20}
	for n := range 300 {
		lengths = append(lengths, n)
	}
	for _, n := range lengths {
		switch n {
		case 1, 2, 4, 8, 16, 32, 64:
			if count, err := row.Leaves(make([]int, n)); count != 1 || err != api.OK {
				t.Errorf("Leaves of %d zeros = %d, %d; want 1, OK", n, count, err)
			}
		default:
			wrongRow(t, make([]int, n))
		}
	}
}

func TestP11_1WrongNumber(t *testing.T) {
	for tracks := range api.MaxTracks + 1 {
		for _, wrong := range []int{-1, -2, math.MinInt} {
			for i := range 1 << tracks {
				r := parity(tracks)
				r[i] = wrong
				wrongRow(t, r)
			}
			wrongRow(t, slices.Repeat([]int{wrong}, 1<<tracks))
		}
	}
}

func TestP11AllSmallRows(t *testing.T) {
	for _, c := range []struct{ tracks, states int }{{0, 5}, {1, 5}, {2, 4}, {3, 3}, {4, 2}} {
		eachRow(c.tracks, c.states, func(r []int) { rightRow(t, r, c.tracks, cubesOf(r)) })
	}
}

func TestP11MadeRows(t *testing.T) {
	madeRows(func(_ *rand.Rand, r []int, tracks int) { rightRow(t, r, tracks, cubesOf(r)) })
}

// A row may have more cubes than a table may keep: here up to 64, a leaf for each letter.
func TestP11ManyLeaves(t *testing.T) {
	for tracks := range api.MaxTracks + 1 {
		r := parity(tracks)
		want := make([]api.Cube, len(r))
		for letter, to := range r {
			want[letter] = cube(len(r)-1, letter, to)
		}
		rightRow(t, r, tracks, want)
	}
	great := make([]int, letters)
	for letter := range great {
		great[letter] = math.MaxInt - letter
	}
	cubes, err := row.Pack(great)
	if len(cubes) != letters || err != api.OK || cubes[letters-1] != cube(letters-1, letters-1, math.MaxInt-letters+1) {
		t.Errorf("Pack of the greatest numbers = %v, %d", cubes, err)
	}
	if row.Right(cubes, api.MaxTracks, math.MaxInt) {
		t.Error("Right takes the state MaxInt for one below MaxInt")
	}
}

// A row that hangs on one track alone has two cubes, whichever it is.
func TestP11OneTrackAsked(t *testing.T) {
	for track := range api.MaxTracks {
		r, power := make([]int, letters), 1<<track
		for letter := range r {
			r[letter] = 7 - letter>>track&1
		}
		rightRow(t, r, api.MaxTracks, []api.Cube{cube(power, 0, 7), cube(power, power, 6)})
	}
}

func TestP11_2Examples(t *testing.T) {
	cubes := []api.Cube{cube(2, 0, 1), cube(3, 2, 2), cube(3, 3, 3)}
	for _, c := range []struct {
		tracks int
		want   []int
	}{{2, []int{1, 1, 2, 3}}, {3, []int{1, 1, 2, 3, 1, 1, 2, 3}}} {
		if got, err := row.Unpack(cubes, c.tracks); !slices.Equal(got, c.want) || err != api.OK {
			t.Errorf("Unpack(.., %d) = %v, %d; want %v, OK", c.tracks, got, err, c.want)
		}
	}
	wrongCubes(t, cubes, 1)
	wrongCubes(t, cubes, 0)
	wrongCubes(t, []api.Cube{cube(2, 2, 1), cube(2, 0, 1)}, 2)
	wrongCubes(t, []api.Cube{cube(2, 2, 1), cube(2, 0, 2)}, 2)
	wrongCubes(t, []api.Cube{cube(1, 0, 1), cube(1, 1, 1)}, 1)
	wrongCubes(t, nil, 0)
	wrongCubes(t, []api.Cube{}, 6)
}

func TestP11_2WrongTracks(t *testing.T) {
	lists := [][]api.Cube{nil, {cube(0, 0, 0)}, {cube(1, 0, 0), cube(1, 1, 1)}, {cube(64, 0, 0), cube(64, 64, 1)}, {cube(0, 0, -1)}}
	for _, tracks := range []int{math.MinInt, -64, -1, api.MaxTracks + 1, 62, 63, 64, math.MaxInt} {
		for _, cubes := range lists {
			// ErrTracks is named first, ahead of cubes that are no row's.
			if got, err := row.Unpack(cubes, tracks); len(got) != 0 || err != api.ErrTracks {
				t.Errorf("Unpack(%v, %d) = %v, %d; want ErrTracks", cubes, tracks, got, err)
			}
			if row.Right(cubes, tracks, 2) {
				t.Errorf("Right(%v, %d, 2)", cubes, tracks)
			}
		}
	}
}

func TestP11_2WrongCubes(t *testing.T) {
	for _, wrong := range []int{-1, -2, math.MinInt} {
		for tracks := range api.MaxTracks + 1 {
			wrongCubes(t, []api.Cube{cube(0, 0, wrong)}, tracks)
			wrongCubes(t, []api.Cube{cube(wrong, 0, 0)}, tracks)
			wrongCubes(t, []api.Cube{cube(0, wrong, 0)}, tracks)
			wrongCubes(t, []api.Cube{cube(1, 0, 3), cube(1, 1, wrong)}, tracks)
		}
	}
	for tracks := range api.MaxTracks + 1 {
		outside := 1 << tracks
		wrongCubes(t, []api.Cube{cube(outside, 0, 0)}, tracks)
		wrongCubes(t, []api.Cube{cube(outside, 0, 0), cube(outside, outside, 1)}, tracks)
		wrongCubes(t, []api.Cube{cube(0, outside, 0)}, tracks)
		wrongCubes(t, []api.Cube{cube(0, 0, 0), cube(outside, outside, 1)}, tracks)
		wrongCubes(t, slices.Repeat([]api.Cube{cube(0, 0, 0)}, outside+1), tracks)
	}
	wrongCubes(t, make([]api.Cube, 1<<20), api.MaxTracks)
}

// eachList makes all lists of up to so many of the cubes.
func eachList(cubes []api.Cube, most int, do func(list []api.Cube)) {
	var grow func(list []api.Cube)
	grow = func(list []api.Cube) {
		do(list)
		if len(list) == most {
			return
		}
		for _, c := range cubes {
			grow(append(list, c))
		}
	}
	grow(make([]api.Cube, 0, most))
}

// Of all short lists of cubes just those are taken that a row over so many tracks has.
func TestP11_2P11_3AllShortLists(t *testing.T) {
	for _, c := range []struct{ tracks, most, from, to, states int }{{0, 2, -2, 2, 2}, {1, 3, -1, 2, 2}, {2, 4, 0, 3, 2}} {
		rows := map[string][]int{}
		eachRow(c.tracks, c.states, func(r []int) { rows[fmt.Sprint(cubesOf(r))] = slices.Clone(r) })
		var cubes []api.Cube
		for mask := c.from; mask <= c.to; mask++ {
			for bits := c.from; bits <= c.to; bits++ {
				for to := min(c.from, 0); to < c.states; to++ {
					// Over two tracks, Bits outside of Mask would make too many lists.
					if c.tracks < 2 || bits&^mask == 0 {
						cubes = append(cubes, cube(mask, bits, to))
					}
				}
			}
		}
		found := 0
		eachList(cubes, c.most, func(list []api.Cube) {
			want, ok := rows[fmt.Sprint(list)]
			if !ok {
				wrongCubes(t, list, c.tracks)
				return
			}
			found++
			rightRow(t, want, c.tracks, list)
		})
		if found != len(rows) {
			t.Errorf("over %d tracks: %d lists are rows', of %d rows", c.tracks, found, len(rows))
		}
	}
}

// spoilt makes lists that are no row's any more out of the cubes of a row.
func spoilt(chance *rand.Rand, cubes []api.Cube, tracks int) [][]api.Cube {
	i := chance.IntN(len(cubes))
	lists := [][]api.Cube{
		slices.Delete(slices.Clone(cubes), i, i+1),
		slices.Insert(slices.Clone(cubes), i, cubes[i]),
		append(slices.Clone(cubes), cubes[0]),
		changed(cubes, i, func(c *api.Cube) { c.To = -1 - c.To }),
		changed(cubes, i, func(c *api.Cube) { c.Mask |= 1 << tracks }),
		changed(cubes, i, func(c *api.Cube) { c.Bits |= 1 << tracks }),
		changed(cubes, i, func(c *api.Cube) { c.Mask, c.Bits = c.Mask|1<<tracks, c.Bits|1<<tracks }),
		changed(cubes, i, func(c *api.Cube) { c.Mask |= math.MinInt }),
	}
	for track := range tracks {
		power := 1 << track
		lists = append(lists,
			changed(cubes, i, func(c *api.Cube) { c.Mask ^= power }),
			changed(cubes, i, func(c *api.Cube) { c.Bits ^= power }))
		if cubes[i].Mask&power == 0 {
			upper := cube(cubes[i].Mask|power, cubes[i].Bits|power, cubes[i].To)
			halves := changed(cubes, i, func(c *api.Cube) { c.Mask |= power })
			lists = append(lists, sorted(append(halves, upper)))
		}
	}
	if j := chance.IntN(len(cubes)); i != j {
		swapped := slices.Clone(cubes)
		swapped[i], swapped[j] = swapped[j], swapped[i]
		lists = append(lists, swapped)
	}
	return lists
}

func changed(cubes []api.Cube, i int, change func(c *api.Cube)) []api.Cube {
	list := slices.Clone(cubes)
	change(&list[i])
	return list
}

func sorted(cubes []api.Cube) []api.Cube {
	slices.SortFunc(cubes, func(a, b api.Cube) int { return cmp.Compare(a.Bits, b.Bits) })
	return cubes
}

func TestP11_2P11_3Spoilt(t *testing.T) {
	madeRows(func(chance *rand.Rand, r []int, tracks int) {
		for _, list := range spoilt(chance, cubesOf(r), tracks) {
			wrongCubes(t, list, tracks)
		}
	})
}

// Where a leaf leads elsewhere, the cubes are still a row's just if the new row has them.
func TestP11_2P11_3OtherStates(t *testing.T) {
	madeRows(func(chance *rand.Rand, r []int, tracks int) {
		cubes := cubesOf(r)
		i, to := chance.IntN(len(cubes)), chance.IntN(9)
		list := changed(cubes, i, func(c *api.Cube) { c.To = to })
		other := slices.Clone(r)
		for letter := range other {
			if letter&cubes[i].Mask == cubes[i].Bits {
				other[letter] = to
			}
		}
		if slices.Equal(cubesOf(other), list) {
			rightRow(t, other, tracks, list)
		} else {
			wrongCubes(t, list, tracks)
		}
	})
}

// Over one track more, that nothing asks, a row's cubes are those of the row laid twice.
func TestP11_2MoreTracks(t *testing.T) {
	madeRows(func(_ *rand.Rand, r []int, tracks int) {
		if tracks == api.MaxTracks {
			return
		}
		cubes, twice := cubesOf(r), slices.Concat(r, r)
		rightRow(t, twice, tracks+1, cubes)
		// Cubes that ask the highest track are of no row over fewer tracks.
		if tracks > 0 && cubes[len(cubes)-1].Mask>>(tracks-1) == 1 {
			wrongCubes(t, cubes, tracks-1)
		}
	})
}

func TestP11_3States(t *testing.T) {
	cubes := []api.Cube{cube(2, 0, 1), cube(3, 2, 2), cube(3, 3, 3)}
	for _, c := range []struct {
		cubes          []api.Cube
		tracks, states int
		want           bool
	}{
		{cubes, 2, 4, true}, {cubes, 2, 3, false}, {cubes, 2, 5, true}, {cubes, 6, 4, true}, {cubes, 1, 4, false}, {cubes, 7, 4, false}, {cubes, -1, 4, false},
		{cubes, 2, 0, false}, {cubes, 2, -4, false}, {cubes, 2, math.MinInt, false}, {cubes, 2, math.MaxInt, true},
		{[]api.Cube{cube(0, 0, 0)}, 0, 1, true}, {[]api.Cube{cube(0, 0, 0)}, 0, 0, false}, {nil, 0, 0, false}, {nil, 0, 1, false}, {nil, 6, 1, false},
		// The state that is too great stands first, in the middle, last.
		{[]api.Cube{cube(2, 0, 9), cube(3, 2, 2), cube(3, 3, 3)}, 2, 9, false}, {[]api.Cube{cube(2, 0, 1), cube(3, 2, 9), cube(3, 3, 3)}, 2, 9, false},
		{[]api.Cube{cube(2, 0, 1), cube(3, 2, 2), cube(3, 3, 9)}, 2, 9, false}, {[]api.Cube{cube(2, 0, 1), cube(3, 2, 2), cube(3, 3, 9)}, 2, 10, true},
		{[]api.Cube{cube(0, 0, 256)}, 6, 257, true}, {[]api.Cube{cube(0, 0, math.MaxInt)}, 6, math.MaxInt, false}, {[]api.Cube{cube(0, 0, -1)}, 6, 1, false},
	} {
		if got := row.Right(c.cubes, c.tracks, c.states); got != c.want {
			t.Errorf("Right(%v, %d, %d) = %v", c.cubes, c.tracks, c.states, got)
		}
	}
}

func TestP11_4Examples(t *testing.T) {
	odd := []api.Cube{cube(1, 0, 5), cube(0, 0, 6)}
	for _, c := range []struct {
		cubes  []api.Cube
		letter int
		want   int
		ok     bool
	}{
		{odd, 2, 5, true}, {odd, 3, 6, true}, {odd, -1, 6, true}, {odd, -2, 5, true}, {odd, math.MinInt, 5, true}, {odd, math.MaxInt, 6, true},
		{nil, 0, 0, false}, {[]api.Cube{}, 5, 0, false},
		{[]api.Cube{cube(1, 0, 5)}, 1, 0, false}, {[]api.Cube{cube(3, 1, 5), cube(3, 2, 6)}, 2, 6, true}, {[]api.Cube{cube(3, 1, 5), cube(3, 2, 6)}, 3, 0, false},
		// Bits outside of Mask fit no number; states may be any numbers.
		{[]api.Cube{cube(1, 2, 5)}, 2, 0, false}, {[]api.Cube{cube(0, 1, 5)}, 1, 0, false}, {[]api.Cube{cube(0, 0, -7)}, 1, -7, true}, {[]api.Cube{cube(0, 0, 0)}, 1, 0, true},
		{[]api.Cube{cube(-1, 70, 5)}, 70, 5, true}, {[]api.Cube{cube(-1, 70, 5)}, 6, 0, false}, {[]api.Cube{cube(-1, -3, 5)}, -3, 5, true},
		{[]api.Cube{cube(math.MinInt, math.MinInt, 5)}, -1, 5, true}, {[]api.Cube{cube(math.MinInt, math.MinInt, 5)}, 1, 0, false},
	} {
		if got, ok := row.At(c.cubes, c.letter); got != c.want || ok != c.ok {
			t.Errorf("At(%v, %d) = %d, %v; want %d, %v", c.cubes, c.letter, got, ok, c.want, c.ok)
		}
	}
}

// fits looks digit by digit, the sign's among them, whether the letter is in the cube.
func fits(c api.Cube, letter int) bool {
	for digit := range 64 {
		asked, want, got := uint64(c.Mask)>>digit%2, uint64(c.Bits)>>digit%2, uint64(letter)>>digit%2
		if want != asked*got {
			return false
		}
	}
	return true
}

func TestP11_4AnyCubes(t *testing.T) {
	numbers := []int{math.MinInt, math.MinInt + 1, -65, -64, -2, -1, 0, 1, 2, 3, 5, 6, 7, 62, 63, 64, 65, 127, 1 << 40, math.MaxInt - 1, math.MaxInt}
	chance := rand.New(rand.NewPCG(11, 4))
	number := func() int {
		if chance.IntN(2) == 0 {
			return chance.IntN(4)
		}
		return numbers[chance.IntN(len(numbers))]
	}
	for range 50000 {
		list := make([]api.Cube, chance.IntN(5))
		for i := range list {
			list[i] = cube(number(), number(), number())
			if chance.IntN(2) == 0 {
				list[i].Bits &= list[i].Mask
			}
		}
		letter, want, ok := number(), 0, false
		for i := len(list) - 1; i >= 0; i-- {
			if fits(list[i], letter) {
				want, ok = list[i].To, true
			}
		}
		if got, gotOK := row.At(list, letter); got != want || gotOK != ok {
			t.Fatalf("At(%v, %d) = %d, %v; want %d, %v", list, letter, got, gotOK, want, ok)
		}
	}
}

func TestArgumentsStay(t *testing.T) {
	madeRows(func(chance *rand.Rand, r []int, tracks int) {
		// The room behind a list is the caller's, too.
		room := append(slices.Clone(r), 98, 99)
		cubes := append(cubesOf(r), cube(98, 98, 98), cube(99, 99, 99))
		roomBefore, cubesBefore := slices.Clone(room), slices.Clone(cubes)
		row.Leaves(room[:len(r)])
		row.Pack(room[:len(r)])
		n := len(cubes) - 2
		for _, list := range [][]api.Cube{cubes[:n], cubes[:chance.IntN(n+1)], cubes} {
			row.Unpack(list, tracks)
			row.Right(list, tracks, 9)
			row.At(list, 1)
		}
		if !slices.Equal(room, roomBefore) || !slices.Equal(cubes, cubesBefore) {
			t.Fatalf("the arguments became %v, %v; were %v, %v", room, cubes, roomBefore, cubesBefore)
		}
	})
}

func TestAnswersAreNew(t *testing.T) {
	madeRows(func(_ *rand.Rand, r []int, tracks int) {
		want, before := cubesOf(r), slices.Clone(r)
		cubes, _ := row.Pack(r)
		for i := range cubes[:cap(cubes)] {
			cubes[:cap(cubes)][i] = cube(77, 77, 77)
		}
		list := slices.Clone(want)
		unpacked, _ := row.Unpack(list, tracks)
		for i := range unpacked[:cap(unpacked)] {
			unpacked[:cap(unpacked)][i] = 77
		}
		if !slices.Equal(r, before) || !slices.Equal(list, want) {
			t.Fatalf("an answer shares with its argument: %v became %v, %v became %v", before, r, want, list)
		}
		rightRow(t, r, tracks, want)
	})
}
