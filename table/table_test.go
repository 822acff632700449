package table_test

import (
	"cmp"
	"fmt"
	"math"
	"math/rand/v2"
	"slices"
	"strings"
	"testing"

	"tabard/api"
	"tabard/table"
)

var six = []string{"a", "b", "c", "d", "e", "f"}

func cube(mask, bits, to int) api.Cube { return api.Cube{Mask: mask, Bits: bits, To: to} }

// even is the chapter's machine.
func even() api.Dense {
	return api.Dense{Tracks: []string{"x"}, Accept: []bool{false, true, false}, Next: [][]int{{1, 2}, {1, 1}, {2, 2}}}
}

// evenTable is the chapter's table.
func evenTable() api.Auto {
	return api.Auto{
		Tracks: []string{"x"},
		Accept: []bool{false, true, false},
		Starts: []int{0, 2, 3, 4},
		Arena:  []api.Cube{cube(1, 0, 1), cube(1, 1, 2), cube(0, 0, 1), cube(0, 0, 2)},
	}
}

// parity is the row of the digits' sum over six tracks, of which each letter is a leaf.
func parity() []int {
	r := make([]int, 64)
	for letter := range r {
		for track := range 6 {
			r[letter] ^= letter >> track & 1
		}
	}
	return r
}

// leavesOf33 is a row over six tracks of 33 leaves: the digits' sum below, one state above.
func leavesOf33() []int {
	r := parity()
	copy(r[32:], make([]int, 32))
	return r
}

// leavesOf32 is a row over six tracks of 32 leaves: the digits' sum of five.
func leavesOf32() []int {
	r := parity()
	copy(r[32:], r[:32])
	return r
}

// leaves finds the cubes of a row letter by letter: a track is asked on the way to a letter's leaf just if, with the
// letter's digits above it, the two rows below are not the same.
func leaves(r []int) []api.Cube {
	seen := map[api.Cube]bool{}
	for letter, to := range r {
		leaf := cube(0, 0, to)
		for power := 1; power < len(r); power *= 2 {
			from := letter / (2 * power) * (2 * power)
			if !slices.Equal(r[from:from+power], r[from+power:from+2*power]) {
				leaf.Mask += power
				leaf.Bits += letter / power % 2 * power
			}
		}
		seen[leaf] = true
	}
	var list []api.Cube
	for leaf := range seen {
		list = append(list, leaf)
	}
	slices.SortFunc(list, func(a, b api.Cube) int { return cmp.Compare(a.Bits, b.Bits) })
	return list
}

// packed is the machine's table, and whether each row has few enough cubes for one.
func packed(d api.Dense) (api.Auto, bool) {
	a := api.Auto{Tracks: d.Tracks, Accept: d.Accept, Starts: []int{0}}
	for _, r := range d.Next {
		cubes := leaves(r)
		if len(cubes) > 32 {
			return api.Auto{}, false
		}
		a.Arena = append(a.Arena, cubes...)
		a.Starts = append(a.Starts, len(a.Arena))
	}
	return a, true
}

// most is how many cubes the greatest piece between two starts has.
func most(a api.Auto) int {
	greatest := 0
	for i := 1; i < len(a.Starts); i++ {
		greatest = max(greatest, a.Starts[i]-a.Starts[i-1])
	}
	return greatest
}

// keyOf tells two tables apart just if they are not the same.
func keyOf(a api.Auto) string {
	return fmt.Sprintf("%q %v %v %v", a.Tracks, a.Accept, a.Starts, a.Arena)
}

func keyOfMachine(d api.Dense) string {
	return fmt.Sprintf("%q %v %v", d.Tracks, d.Accept, d.Next)
}

func isZero(a api.Auto) bool {
	return len(a.Tracks)+len(a.Accept)+len(a.Starts)+len(a.Arena) == 0
}

func isZeroMachine(d api.Dense) bool {
	return len(d.Tracks)+len(d.Accept)+len(d.Next) == 0
}

// wrongMachine looks that the machine is refused by every call that takes one.
func wrongMachine(t *testing.T, d api.Dense) {
	t.Helper()
	if err := table.Right(d); err != api.ErrShape {
		t.Errorf("Right(%.200v) = %d; want ErrShape", d, err)
	}
	if a, err := table.Pack(d); !isZero(a) || err != api.ErrShape {
		t.Errorf("Pack(%.200v) = %v, %d; want ErrShape", d, a, err)
	}
}

// wrongTable looks that the table is refused by every call that takes one.
func wrongTable(t *testing.T, a api.Auto) {
	t.Helper()
	if err := table.Check(a); err != api.ErrShape {
		t.Errorf("Check(%.200v) = %d; want ErrShape", a, err)
	}
	if d, err := table.Unpack(a); !isZeroMachine(d) || err != api.ErrShape {
		t.Errorf("Unpack(%.200v) = %v, %d; want ErrShape", a, d, err)
	}
	if n, err := table.Most(a); n != 0 || err != api.ErrShape {
		t.Errorf("Most(%.200v) = %d, %d; want ErrShape", a, n, err)
	}
	// ErrShape is named ahead of ErrLetter.
	for _, word := range [][]int{nil, {0}, {0, 0, 0, 0}, {-1}, {0, 64}} {
		if q, err := table.Run(a, word); q != 0 || err != api.ErrShape {
			t.Errorf("Run(%.200v, %v) = %d, %d; want ErrShape", a, word, q, err)
		}
		if ok, err := table.Takes(a, word); ok || err != api.ErrShape {
			t.Errorf("Takes(%.200v, %v) = %v, %d; want ErrShape", a, word, ok, err)
		}
	}
}

// rightBoth looks that the machine is right, the table is its own, and each leads to the other.
func rightBoth(t *testing.T, d api.Dense, a api.Auto) {
	t.Helper()
	if err := table.Right(d); err != api.OK {
		t.Errorf("Right(%v) = %d; want OK", d, err)
	}
	if err := table.Check(a); err != api.OK {
		t.Errorf("Check(%v) = %d; want OK", a, err)
	}
	if got, err := table.Pack(d); keyOf(got) != keyOf(a) || err != api.OK {
		t.Errorf("Pack(%v) = %v, %d; want %v, OK", d, got, err, a)
	}
	if got, err := table.Unpack(a); keyOfMachine(got) != keyOfMachine(d) || err != api.OK {
		t.Errorf("Unpack(%v) = %v, %d; want %v, OK", a, got, err, d)
	}
	if n, err := table.Most(a); n != most(a) || err != api.OK {
		t.Errorf("Most(%v) = %d, %d; want %d, OK", a, n, err, most(a))
	}
}

// runBoth looks that a right table's word leads where it leads in its machine.
func runBoth(t *testing.T, d api.Dense, a api.Auto, word []int) {
	t.Helper()
	state := 0
	for _, letter := range word {
		state = d.Next[state][letter]
	}
	if q, err := table.Run(a, word); q != state || err != api.OK {
		t.Errorf("Run(%v, %v) = %d, %d; want %d, OK", a, word, q, err, state)
	}
	if ok, err := table.Takes(a, word); ok != d.Accept[state] || err != api.OK {
		t.Errorf("Takes(%v, %v) = %v, %d; want %v, OK", a, word, ok, err, d.Accept[state])
	}
}

func wrongWord(t *testing.T, a api.Auto, word []int) {
	t.Helper()
	if q, err := table.Run(a, word); q != 0 || err != api.ErrLetter {
		t.Errorf("Run(%v, %.100v) = %d, %d; want ErrLetter", a, word, q, err)
	}
	if ok, err := table.Takes(a, word); ok || err != api.ErrLetter {
		t.Errorf("Takes(%v, %.100v) = %v, %d; want ErrLetter", a, word, ok, err)
	}
}

// made makes a right machine by chance, whose rows ask few tracks or all.
func made(chance *rand.Rand, tracks, states int) api.Dense {
	d := api.Dense{Tracks: slices.Clone(six[:tracks])}
	for range states {
		d.Accept = append(d.Accept, chance.IntN(2) == 0)
		r, mask := make([]int, 1<<tracks), chance.IntN(1<<tracks)
		for letter := range r {
			r[letter] = chance.IntN(states)
			if chance.IntN(9) > 0 {
				r[letter] = r[letter&mask]
			}
		}
		d.Next = append(d.Next, r)
	}
	return d
}

// eachMade hands on some thousand right machines, the same ones at each call.
func eachMade(do func(chance *rand.Rand, d api.Dense)) {
	chance := rand.New(rand.NewPCG(12, 1))
	for i := range 3000 {
		do(chance, made(chance, i%7, 1+chance.IntN(8)))
	}
}

// words makes some words by chance, the empty one first.
func words(chance *rand.Rand, tracks int) [][]int {
	list := [][]int{nil, {}}
	for length := range 12 {
		word := make([]int, length)
		for i := range word {
			word[i] = chance.IntN(1 << tracks)
		}
		list = append(list, word)
	}
	return list
}

func TestP12Examples(t *testing.T) {
	a, d := evenTable(), even()
	rightBoth(t, d, a)
	if n, err := table.Most(a); n != 2 || err != api.OK {
		t.Errorf("Most = %d, %d; want 2, OK", n, err)
	}
	if q, err := table.Run(a, []int{0, 1, 1}); q != 1 || err != api.OK {
		t.Errorf("Run = %d, %d; want 1, OK", q, err)
	}
	if ok, err := table.Takes(a, []int{0, 1, 1}); !ok || err != api.OK {
		t.Errorf("Takes = %v, %d; want true, OK", ok, err)
	}
	if ok, err := table.Takes(a, nil); ok || err != api.OK {
		t.Errorf("Takes of no letters = %v, %d; want false, OK", ok, err)
	}
	wrongWord(t, a, []int{0, 2})
	wrongWord(t, a, []int{-1})
	d.Next = d.Next[:2]
	wrongMachine(t, d)
	d = even()
	d.Next[1][0] = 3
	wrongMachine(t, d)
	d = even()
	d.Tracks = []string{"x", "x"}
	wrongMachine(t, d)
	wide := api.Dense{Tracks: six, Accept: []bool{false, true}, Next: [][]int{leavesOf33(), leavesOf33()}}
	if got, err := table.Pack(wide); !isZero(got) || err != api.ErrCubes {
		t.Errorf("Pack of 33 leaves = %v, %d; want ErrCubes", got, err)
	}
}

// wrongTracks are lists that are no tracks, each but the last few of one name or two.
func wrongTracks() [][]string {
	lists := [][]string{
		{""}, {"1x"}, {"and"}, {"x\xff"}, {"x y"}, {"é"}, {strings.Repeat("a", 17)},
		{"x", "x"}, {"y", "x"}, {"x", "X"}, {"x", ""}, {"and", "x"}, {"α", "z"},
		{"a", "c", "b"}, {"a", "b", "b"}, {"a", "b", "c", "d", "e", "1"},
		append(slices.Clone(six), "g"), append(slices.Clone(six), "g", "h"),
	}
	many := make([]string, 1<<20)
	for i := range many {
		many[i] = fmt.Sprintf("n%08d", i)
	}
	return append(lists, many, many[:63], many[:64], many[:65])
}

func TestP12_1WrongTracks(t *testing.T) {
	for _, tracks := range wrongTracks() {
		letters := 1 << min(len(tracks), 8)
		wrongMachine(t, api.Dense{Tracks: tracks, Accept: []bool{true}, Next: [][]int{make([]int, letters)}})
		wrongMachine(t, api.Dense{Tracks: tracks, Accept: []bool{true}, Next: [][]int{{}}})
		wrongMachine(t, api.Dense{Tracks: tracks, Accept: []bool{true}, Next: [][]int{{0}}})
		wrongTable(t, api.Auto{Tracks: tracks, Accept: []bool{true}, Starts: []int{0, 1}, Arena: []api.Cube{cube(0, 0, 0)}})
	}
	for _, tracks := range [][]string{{"x", "y"}, {"X", "x"}, {"Z", "_", "a", "α"}, {strings.Repeat("α", 16)}, six} {
		r := make([]int, 1<<len(tracks))
		rightBoth(t, api.Dense{Tracks: tracks, Accept: []bool{true}, Next: [][]int{r}},
			api.Auto{Tracks: tracks, Accept: []bool{true}, Starts: []int{0, 1}, Arena: []api.Cube{cube(0, 0, 0)}})
	}
}

// ring is a machine of so many states over so many tracks, each of which leads to the next.
func ring(tracks, states int) (api.Dense, api.Auto) {
	d := api.Dense{Tracks: six[:tracks], Accept: make([]bool, states)}
	a := api.Auto{Tracks: six[:tracks], Accept: make([]bool, states), Starts: []int{0}}
	for i := range states {
		to := (i + 1) % states
		d.Next = append(d.Next, slices.Repeat([]int{to}, 1<<tracks))
		a.Arena = append(a.Arena, cube(0, 0, to))
		a.Starts = append(a.Starts, i+1)
	}
	return d, a
}

func TestP12_1States(t *testing.T) {
	for tracks := range 7 {
		for _, states := range []int{1, 2, 3, 64, 255, 256} {
			d, a := ring(tracks, states)
			rightBoth(t, d, a)
			runBoth(t, d, a, make([]int, 1000))
		}
		for _, states := range []int{0, 257, 258, 1 << 13} {
			d, a := ring(tracks, states)
			wrongMachine(t, d)
			wrongTable(t, a)
		}
		wrongMachine(t, api.Dense{Tracks: six[:tracks]})
		wrongTable(t, api.Auto{Tracks: six[:tracks]})
		wrongTable(t, api.Auto{Tracks: six[:tracks], Starts: []int{0}})
	}
	wrongMachine(t, api.Dense{Accept: make([]bool, 1<<24), Next: make([][]int, 1<<20)})
	wrongTable(t, api.Auto{Accept: make([]bool, 1<<24), Starts: make([]int, 1<<24+1)})
}

// spoilMachines makes machines that are not right out of a right one, each wrong in one thing.
func spoilMachines(chance *rand.Rand, d api.Dense) []api.Dense {
	states := len(d.Accept)
	at := chance.IntN(states)
	letter := chance.IntN(len(d.Next[at]))
	var list []api.Dense
	add := func(spoil func(d *api.Dense)) {
		s := api.Dense{Tracks: slices.Clone(d.Tracks), Accept: slices.Clone(d.Accept)}
		for _, r := range d.Next {
			s.Next = append(s.Next, slices.Clone(r))
		}
		spoil(&s)
		list = append(list, s)
	}
	for _, to := range []int{states, states + 1, 256, -1, math.MinInt, math.MaxInt} {
		if to < 0 || to >= states {
			add(func(d *api.Dense) { d.Next[at][letter] = to })
		}
	}
	add(func(d *api.Dense) { d.Next[at] = d.Next[at][1:] })
	add(func(d *api.Dense) { d.Next[at] = append(d.Next[at], 0) })
	add(func(d *api.Dense) { d.Next[at] = append(d.Next[at], d.Next[at]...) })
	add(func(d *api.Dense) { d.Next[at] = d.Next[at][:len(d.Next[at])/2] })
	add(func(d *api.Dense) { d.Next[at] = nil })
	add(func(d *api.Dense) { d.Next = slices.Delete(d.Next, at, at+1) })
	add(func(d *api.Dense) { d.Next = append(d.Next, d.Next[at]) })
	add(func(d *api.Dense) { d.Next = nil })
	add(func(d *api.Dense) { d.Accept = append(d.Accept, true) })
	add(func(d *api.Dense) { d.Accept = d.Accept[1:] })
	add(func(d *api.Dense) { d.Accept = nil })
	add(func(d *api.Dense) { d.Tracks = append(d.Tracks, "g") })
	if len(d.Tracks) > 0 {
		add(func(d *api.Dense) { d.Tracks = d.Tracks[1:] })
	}
	return list
}

// spoilTables makes tables that are not right out of a right one, each wrong in one thing.
func spoilTables(chance *rand.Rand, a api.Auto) []api.Auto {
	states, length := len(a.Accept), len(a.Arena)
	at, c := chance.IntN(states), chance.IntN(length)
	var list []api.Auto
	add := func(spoil func(a *api.Auto)) {
		s := api.Auto{
			Tracks: slices.Clone(a.Tracks), Accept: slices.Clone(a.Accept),
			Starts: slices.Clone(a.Starts), Arena: slices.Clone(a.Arena),
		}
		spoil(&s)
		list = append(list, s)
	}
	for _, by := range []int{-1, 1, -length, length, math.MinInt, math.MaxInt - length} {
		for i := range a.Starts {
			add(func(a *api.Auto) { a.Starts[i] += by })
		}
		add(func(a *api.Auto) { a.Arena[c].Mask += by })
	}
	for _, to := range []int{states, states + 1, 256, -1, math.MinInt, math.MaxInt} {
		if to < 0 || to >= states {
			add(func(a *api.Auto) { a.Arena[c].To = to })
		}
	}
	add(func(a *api.Auto) { a.Arena[c].Bits ^= 1 << chance.IntN(7) })
	add(func(a *api.Auto) { a.Arena[c].Mask |= 1 << len(a.Tracks) })
	add(func(a *api.Auto) { a.Starts = slices.Delete(a.Starts, at, at+1) })
	add(func(a *api.Auto) { a.Starts = append(a.Starts, length) })
	add(func(a *api.Auto) { a.Starts = slices.Insert(a.Starts, 0, 0) })
	add(func(a *api.Auto) { a.Starts = nil })
	add(func(a *api.Auto) { a.Starts[states]--; a.Arena = a.Arena[:length-1] })
	add(func(a *api.Auto) { a.Starts[states]++; a.Arena = append(a.Arena, a.Arena[c]) })
	add(func(a *api.Auto) { a.Arena = slices.Delete(a.Arena, c, c+1) })
	add(func(a *api.Auto) { a.Arena = append(a.Arena, a.Arena[c]) })
	add(func(a *api.Auto) { a.Arena = nil })
	add(func(a *api.Auto) { a.Accept = append(a.Accept, true) })
	add(func(a *api.Auto) { a.Accept = a.Accept[1:] })
	add(func(a *api.Auto) { a.Accept = nil })
	add(func(a *api.Auto) { a.Tracks = append(a.Tracks, a.Tracks...); a.Tracks = append(a.Tracks, "1") })
	return list
}

func TestP12MadeMachines(t *testing.T) {
	wide := 0
	eachMade(func(chance *rand.Rand, d api.Dense) {
		a, ok := packed(d)
		if !ok {
			wide++
			if err := table.Right(d); err != api.OK {
				t.Errorf("Right(%v) = %d; want OK", d, err)
			}
			if got, err := table.Pack(d); !isZero(got) || err != api.ErrCubes {
				t.Errorf("Pack(%v) = %v, %d; want ErrCubes", d, got, err)
			}
			return
		}
		rightBoth(t, d, a)
		for _, word := range words(chance, len(d.Tracks)) {
			runBoth(t, d, a, word)
			at := chance.IntN(len(word) + 1)
			for _, wrong := range []int{1 << len(d.Tracks), 64, -1, math.MinInt, math.MaxInt} {
				wrongWord(t, a, slices.Insert(slices.Clone(word), at, wrong))
			}
		}
	})
	if wide < 100 {
		t.Errorf("just %d machines have rows of too many cubes", wide)
	}
}

func TestP12_1Spoilt(t *testing.T) {
	eachMade(func(chance *rand.Rand, d api.Dense) {
		for _, s := range spoilMachines(chance, d) {
			wrongMachine(t, s)
		}
		a, ok := packed(d)
		if !ok {
			return
		}
		for _, s := range spoilTables(chance, a) {
			wrongTable(t, s)
		}
	})
}

// eachList makes all lists of up to so many of the things.
func eachList[T any](things []T, most int, do func(list []T)) {
	var grow func(list []T)
	grow = func(list []T) {
		do(list)
		if len(list) == most {
			return
		}
		for _, thing := range things {
			grow(append(list, thing))
		}
	}
	grow(make([]T, 0, most))
}

// Of all small machines just those are right that have a row for each state and a state for each letter.
func TestP12_1AllSmallMachines(t *testing.T) {
	for _, tracks := range [][]string{nil, {"x"}} {
		var rows [][]int
		eachList([]int{-1, 0, 1, 2}, 3, func(r []int) { rows = append(rows, slices.Clone(r)) })
		found := 0
		for states := range 4 {
			accept := make([]bool, states)
			eachList(rows, 2, func(next [][]int) {
				d := api.Dense{Tracks: tracks, Accept: accept, Next: next}
				right := states > 0 && len(next) == states
				for _, r := range next {
					right = right && len(r) == 1<<len(tracks)
					for _, to := range r {
						right = right && to >= 0 && to < states
					}
				}
				if !right {
					wrongMachine(t, d)
					return
				}
				found++
				a, _ := packed(d)
				rightBoth(t, d, a)
			})
		}
		// One state has one row; two states have two rows of the states 0 and 1.
		if want := 1 + []int{2 * 2, 4 * 4}[len(tracks)]; found != want {
			t.Errorf("over %d tracks: %d right machines; want %d", len(tracks), found, want)
		}
	}
}

// Of all small tables just those are right that a machine has.
func TestP12_1AllSmallTables(t *testing.T) {
	var cubes []api.Cube
	for i := range 8 {
		cubes = append(cubes, cube(i>>2, i>>1&1, i&1))
	}
	for _, tracks := range [][]string{nil, {"x"}} {
		right := map[string]api.Dense{}
		rows := [][]int{}
		eachList([]int{0, 1}, 2, func(r []int) {
			if len(r) == 1<<len(tracks) {
				rows = append(rows, slices.Clone(r))
			}
		})
		eachList(rows, 2, func(next [][]int) {
			d := api.Dense{Tracks: tracks, Accept: make([]bool, len(next)), Next: slices.Clone(next)}
			if len(next) == 2 || len(next) == 1 && slices.Max(next[0]) == 0 {
				a, _ := packed(d)
				right[keyOf(a)] = d
			}
		})
		found := 0
		eachList(cubes, 4, func(arena []api.Cube) {
			// Starts are tried in full round the arena's length; most lists fail at once.
			starts := []int{-1, 0, 1, 2, len(arena), len(arena) + 1}
			slices.Sort(starts)
			eachList(slices.Compact(starts), 3, func(starts []int) {
				a := api.Auto{Tracks: tracks, Accept: make([]bool, max(0, len(starts)-1)), Starts: starts, Arena: arena}
				// Where Starts are wrong beyond doubt, no key is made, for time's sake.
				if len(starts) < 2 || starts[0] != 0 || starts[len(starts)-1] != len(arena) {
					if err := table.Check(a); err != api.ErrShape {
						t.Errorf("Check(%v) = %d; want ErrShape", a, err)
					}
					return
				}
				d, ok := right[keyOf(a)]
				if !ok {
					if err := table.Check(a); err != api.ErrShape {
						t.Errorf("Check(%v) = %d; want ErrShape", a, err)
					}
					return
				}
				found++
				rightBoth(t, d, a)
			})
		})
		if found != len(right) {
			t.Errorf("over %d tracks: %d tables are right, of %d", len(tracks), found, len(right))
		}
	}
}

func TestP12_1StartsAndStates(t *testing.T) {
	a := evenTable()
	for _, accept := range [][]bool{{true}, {true, true}, {true, true, true, true}} {
		a.Accept = accept
		wrongTable(t, a)
	}
	for _, starts := range [][]int{
		{0, 3, 2, 4}, {0, 2, 3, 3}, {0, 2, 3, 5}, {1, 2, 3, 4}, {0, 0, 3, 4}, {0, 2, 4, 4}, {0, 2, 2, 4}, {0, 1, 3, 4},
		{0, 4, 4, 4}, {0, 0, 0, 4}, {0, -1, 3, 4}, {0, 5, 3, 4}, {-2, 0, 2, 4}, {0, math.MaxInt, math.MinInt, 4},
		{0, math.MinInt, 3, 4}, {0, 2, math.MaxInt, 4}, {0, 2, 3, math.MaxInt}, {math.MinInt, 2, 3, 4},
		{0, 2, 3, 4, 4}, {0, 2, 3}, {0, 0, 2, 3, 4}, {0}, nil, make([]int, 1<<20),
	} {
		a := evenTable()
		a.Starts = starts
		wrongTable(t, a)
	}
}

// A state's cubes may be a row's and still be too many for a table.
func TestP12_1P12_2CubesBound(t *testing.T) {
	few := api.Dense{Tracks: six, Accept: []bool{false, true}, Next: [][]int{leavesOf32(), leavesOf32()}}
	a, ok := packed(few)
	if !ok || most(a) != 32 || len(a.Arena) != 64 {
		t.Fatalf("%v", a)
	}
	rightBoth(t, few, a)
	for _, r := range [][]int{leavesOf33(), parity()} {
		cubes := leaves(r)
		for at := range 2 {
			wide := api.Dense{Tracks: six, Accept: []bool{false, true}, Next: [][]int{leavesOf32(), leavesOf32()}}
			wide.Next[at] = r
			if err := table.Right(wide); err != api.OK {
				t.Errorf("Right of %d leaves = %d; want OK", len(cubes), err)
			}
			if got, err := table.Pack(wide); !isZero(got) || err != api.ErrCubes {
				t.Errorf("Pack of %d leaves = %v, %d; want ErrCubes", len(cubes), got, err)
			}
			// ErrShape is named ahead of ErrCubes, whichever row is looked at first.
			for wrong := range 2 {
				next := slices.Clone(wide.Next)
				next[wrong] = slices.Clone(next[wrong])
				next[wrong][63] = 2
				wrongMachine(t, api.Dense{Tracks: six, Accept: wide.Accept, Next: next})
			}
		}
		first := api.Auto{Tracks: six, Accept: []bool{false, true}, Starts: []int{0, len(cubes), len(cubes) + 1}}
		first.Arena = append(slices.Clone(cubes), cube(0, 0, 1))
		wrongTable(t, first)
		second := api.Auto{Tracks: six, Accept: []bool{false, true}, Starts: []int{0, 1, len(cubes) + 1}}
		second.Arena = append([]api.Cube{cube(0, 0, 1)}, cubes...)
		wrongTable(t, second)
	}
}

func TestP12_3Most(t *testing.T) {
	for at := range 3 {
		d := api.Dense{Tracks: six[:2], Accept: make([]bool, 3), Next: [][]int{{0, 0, 0, 0}, {1, 1, 1, 1}, {2, 2, 2, 2}}}
		d.Next[at] = []int{0, 1, 2, 2}
		a, err := table.Pack(d)
		if err != api.OK {
			t.Fatal(err)
		}
		if n, err := table.Most(a); n != 3 || err != api.OK {
			t.Errorf("Most(%v) = %d, %d; want 3, OK", a, n, err)
		}
	}
	_, one := ring(0, 1)
	if n, err := table.Most(one); n != 1 || err != api.OK {
		t.Errorf("Most(%v) = %d, %d; want 1, OK", one, n, err)
	}
}

func TestP12_4Letters(t *testing.T) {
	for tracks := range 7 {
		d, a := ring(tracks, 5)
		d.Accept[2], a.Accept[2] = true, true
		letters := 1 << tracks
		for letter := -70; letter < 140; letter++ {
			if letter < 0 || letter >= letters {
				wrongWord(t, a, []int{letter})
				wrongWord(t, a, []int{0, letter, 0})
			} else {
				runBoth(t, d, a, []int{letter})
				runBoth(t, d, a, []int{0, letter, 0})
			}
		}
		for length := range 100 {
			runBoth(t, d, a, slices.Repeat([]int{letters - 1}, length))
		}
		long := slices.Repeat([]int{letters - 1}, 1<<16)
		runBoth(t, d, a, long)
		wrongWord(t, a, append(long, letters))
	}
}

// State 0 is the answer for the empty word, also where it accepts, or where every letter leaves it.
func TestP12_4EmptyWord(t *testing.T) {
	for _, accept := range []bool{false, true} {
		d, a := ring(1, 2)
		d.Accept[0], a.Accept[0] = accept, accept
		d.Accept[1], a.Accept[1] = !accept, !accept
		runBoth(t, d, a, nil)
		runBoth(t, d, a, []int{})
		runBoth(t, d, a, []int{1})
	}
}

func TestP12_5Same(t *testing.T) {
	same := func(a, b api.Auto, want bool) {
		t.Helper()
		if table.Same(a, b) != want || table.Same(b, a) != want {
			t.Errorf("Same(%v, %v) is not %v", a, b, want)
		}
	}
	same(evenTable(), evenTable(), true)
	same(api.Auto{}, api.Auto{}, true)
	same(api.Auto{}, evenTable(), false)
	same(api.Auto{}, api.Auto{Tracks: []string{}, Accept: []bool{}, Starts: []int{}, Arena: []api.Cube{}}, true)
	for i, change := range []func(a *api.Auto){
		func(a *api.Auto) { a.Tracks[0] = "y" },
		func(a *api.Auto) { a.Tracks[0] = "" },
		func(a *api.Auto) { a.Tracks = append(a.Tracks, "y") },
		func(a *api.Auto) { a.Tracks = nil },
		func(a *api.Auto) { a.Accept[0] = true },
		func(a *api.Auto) { a.Accept[2] = true },
		func(a *api.Auto) { a.Accept = a.Accept[:2] },
		func(a *api.Auto) { a.Accept = append(a.Accept, false) },
		func(a *api.Auto) { a.Accept = nil },
		func(a *api.Auto) { a.Starts[0] = 1 },
		func(a *api.Auto) { a.Starts[3] = -4 },
		func(a *api.Auto) { a.Starts = a.Starts[:3] },
		func(a *api.Auto) { a.Starts = append(a.Starts, 4) },
		func(a *api.Auto) { a.Starts = nil },
		func(a *api.Auto) { a.Arena[0].Mask = 0 },
		func(a *api.Auto) { a.Arena[1].Bits = 0 },
		func(a *api.Auto) { a.Arena[3].To = -1 },
		func(a *api.Auto) { a.Arena[0], a.Arena[1] = a.Arena[1], a.Arena[0] },
		func(a *api.Auto) { a.Arena = a.Arena[:3] },
		func(a *api.Auto) { a.Arena = append(a.Arena, api.Cube{}) },
		func(a *api.Auto) { a.Arena = nil },
	} {
		a, b := evenTable(), evenTable()
		change(&a)
		same(a, b, false)
		change(&b)
		same(a, b, true)
		if i > 0 {
			same(a, api.Auto{}, false)
		}
	}
	// No field stands for another, in tables that are not right either.
	single := []api.Auto{{Tracks: []string{""}}, {Accept: []bool{false}}, {Starts: []int{0}}, {Arena: []api.Cube{{}}}}
	for i, a := range single {
		for j, b := range single {
			same(a, b, i == j)
		}
	}
}

func TestP12_5MadeTables(t *testing.T) {
	eachMade(func(chance *rand.Rand, d api.Dense) {
		a, ok := packed(d)
		if !ok {
			return
		}
		own := keyOf(a)
		for _, s := range append(spoilTables(chance, a), a, evenTable(), api.Auto{}) {
			if got := table.Same(a, s); got != (own == keyOf(s)) {
				t.Errorf("Same(%v, %v) = %v", a, s, got)
			}
		}
	})
}

// roomy makes the list one with spare room, which holds a mark.
func roomy[T any](list []T, mark T) []T {
	long := append(slices.Clone(list), mark, mark, mark)
	return long[:len(list)]
}

func room[T any](list []T) []T { return list[:cap(list)] }

// Nothing that is handed in is changed, its spare room neither, and no answer shares memory with it.
func TestP12ArgumentsStay(t *testing.T) {
	d, a := even(), evenTable()
	d.Tracks, d.Accept, d.Next = roomy(d.Tracks, "m"), roomy(d.Accept, true), roomy(d.Next, []int{9})
	for i, r := range d.Next {
		d.Next[i] = roomy(r, 9)
	}
	a.Tracks, a.Accept, a.Starts, a.Arena = roomy(a.Tracks, "m"), roomy(a.Accept, true), roomy(a.Starts, 9), roomy(a.Arena, cube(9, 9, 9))
	word := roomy([]int{0, 1, 1}, 9)
	tell := func() string {
		s := fmt.Sprint(room(d.Tracks), room(d.Accept), room(d.Next), room(a.Tracks), room(a.Accept), room(a.Starts), room(a.Arena), room(word))
		for _, r := range d.Next {
			s += fmt.Sprint(room(r))
		}
		return s
	}
	was := tell()
	table.Right(d)
	table.Check(a)
	table.Most(a)
	table.Run(a, word)
	table.Takes(a, word)
	table.Same(a, a)
	madeTable, _ := table.Pack(d)
	machine, _ := table.Unpack(a)
	overwriteTable(madeTable)
	overwriteMachine(machine)
	if tell() != was {
		t.Errorf("%s is now %s", was, tell())
	}
	again, _ := table.Pack(d)
	if keyOf(again) != keyOf(evenTable()) {
		t.Errorf("Pack = %v after its answer was overwritten", again)
	}
}

func overwrite[T any](list []T, by T) {
	list = list[:cap(list)]
	for i := range list {
		list[i] = by
	}
}

func overwriteTable(a api.Auto) {
	overwrite(a.Tracks, "w")
	overwrite(a.Accept, true)
	overwrite(a.Starts, 77)
	overwrite(a.Arena, cube(7, 7, 7))
}

func overwriteMachine(d api.Dense) {
	for _, r := range d.Next {
		overwrite(r, 77)
	}
	overwrite(d.Tracks, "w")
	overwrite(d.Accept, true)
	overwrite(d.Next, nil)
}

// The rows of one answer share no memory, not even where they are the same or one handed-in row was all of them.
func TestP12_2RowsApart(t *testing.T) {
	_, a := ring(2, 4)
	for i := range a.Arena {
		a.Arena[i].To = 3
	}
	d, err := table.Unpack(a)
	if err != api.OK {
		t.Fatal(err)
	}
	for i := range d.Next {
		overwrite(d.Next[i], i+10)
		for j := range d.Next {
			want := 3
			if j <= i {
				want = j + 10
			}
			if !slices.Equal(d.Next[j], slices.Repeat([]int{want}, 4)) {
				t.Fatalf("row %d is %v after row %d was overwritten", j, d.Next[j], i)
			}
		}
	}
	shared := []int{1, 0}
	one := api.Dense{Tracks: []string{"x"}, Accept: []bool{true, false}, Next: [][]int{shared, shared}}
	packedOne, _ := packed(one)
	rightBoth(t, one, packedOne)
}

// Lists that are nil and lists that are empty mean the same.
func TestP12NilAndEmpty(t *testing.T) {
	for _, tracks := range [][]string{nil, {}} {
		d := api.Dense{Tracks: tracks, Accept: []bool{true}, Next: [][]int{{0}}}
		a := api.Auto{Tracks: tracks, Accept: []bool{true}, Starts: []int{0, 1}, Arena: []api.Cube{{}}}
		rightBoth(t, d, a)
		runBoth(t, d, a, nil)
		runBoth(t, d, a, []int{0, 0})
		wrongWord(t, a, []int{1})
	}
	wrongMachine(t, api.Dense{})
	wrongMachine(t, api.Dense{Tracks: []string{}, Accept: []bool{}, Next: [][]int{}})
	wrongTable(t, api.Auto{})
	wrongTable(t, api.Auto{Tracks: []string{}, Accept: []bool{}, Starts: []int{}, Arena: []api.Cube{}})
}
