package glyph_test

import (
	"math"
	"slices"
	"strings"
	"testing"
	"unicode/utf8"

	"tabard/api"
	"tabard/glyph"
)

const greek = "ΑΒΓΔΕΖΗΘΙΚΛΜΝΞΟΠΡΣΤΥΦΧΨΩ" + "αβγδεζηθικλμνξοπρςστυφχψω"

const (
	starts = "ABCDEFGHIJKLMNOPQRSTUVWXYZ" + "abcdefghijklmnopqrstuvwxyz" + "_" + greek
	rests  = starts + "0123456789" + "′" + "₀₁₂₃₄₅₆₇₈₉"
	blanks = " \t\n\r"
)

// reserved lists the words that are no names.
func reserved() []string {
	return []string{"and", "or", "not", "ex", "all", "mod", "true", "false"}
}

// everyRune goes through all characters, and numbers on both sides that are none.
func everyRune(see func(r rune)) {
	for r := rune(-300); r <= utf8.MaxRune+300; r++ {
		see(r)
	}
	for _, r := range []rune{math.MinInt32, math.MinInt32 + 'a', -math.MaxInt32, math.MaxInt32 - 1, math.MaxInt32} {
		see(r)
	}
}

// among makes the question whether a number is one of the characters; strings.ContainsRune would take one that is none for U+FFFD.
func among(characters string) func(r rune) bool {
	set := map[rune]bool{}
	for _, r := range characters {
		set[r] = true
	}
	return func(r rune) bool { return set[r] }
}

// pieces are texts of whole, broken and missing characters, of which longer ones are put together.
func pieces() []string {
	return []string{
		"a", "1", " ", "é", "α", "₁", "≤", "\u00ad", "\U0001F600", "\x00", "\x7f", "\u07ff", "\u0800", "\uffff", "\U00010000", "\U0010FFFF",
		"\uFFFD", "\ufeff",
		"\xff", "\xfe", "\x80", "\xbf", "\xc3", "\xe2\x82", "\xe2", "\xf0\x9f\x98", "\xf0\x9f", "\xf0",
		// Overlong forms, halves of pairs, and numbers above the greatest character.
		"\xc0\xaf", "\xc1\xbf", "\xe0\x80\x80", "\xed\xa0\x80", "\xed\xbf\xbf", "\xf4\x90\x80\x80", "\xf5\x80\x80\x80", "\xef\xbf",
	}
}

// texts are the pieces, and all twos and some threes of them.
func texts() []string {
	list := []string{""}
	all := pieces()
	for i, a := range all {
		list = append(list, a)
		for j, b := range all {
			list = append(list, a+b, a+b+all[(3*i+5*j)%len(all)])
		}
	}
	return list
}

// firstBad walks by the decoder of the library: where the first byte of no character stands; the text's end, if there is none.
func firstBad(s string) int {
	at := 0
	for at < len(s) {
		r, width := utf8.DecodeRuneInString(s[at:])
		if r == utf8.RuneError && width == 1 {
			return at
		}
		at += width
	}
	return at
}

func TestP4_1StartRestBlank(t *testing.T) {
	if n := utf8.RuneCountInString(starts); n != 26+26+1+17+7+25 {
		t.Fatalf("%d characters may begin a name", n)
	}
	isStart, isRest, isBlank := among(starts), among(rests), among(blanks)
	everyRune(func(r rune) {
		if got, want := glyph.Start(r), isStart(r); got != want {
			t.Errorf("Start(%#x) = %v; want %v", r, got, want)
		}
		if got, want := glyph.Rest(r), isRest(r); got != want {
			t.Errorf("Rest(%#x) = %v; want %v", r, got, want)
		}
		if got, want := glyph.Blank(r), isBlank(r); got != want {
			t.Errorf("Blank(%#x) = %v; want %v", r, got, want)
		}
	})
}

// The edges of the document's ranges, by their numbers.
func TestP4_1StartAtTheEdges(t *testing.T) {
	for _, c := range []struct {
		r           rune
		start, rest bool
	}{
		{0x40, false, false}, {0x41, true, true}, {0x5a, true, true}, {0x5b, false, false},
		{0x5e, false, false}, {0x5f, true, true}, {0x60, false, false},
		{0x61, true, true}, {0x7a, true, true}, {0x7b, false, false},
		{0x390, false, false}, {0x391, true, true}, {0x3a1, true, true}, {0x3a2, false, false}, {0x3a3, true, true}, {0x3a9, true, true}, {0x3aa, false, false},
		{0x3b0, false, false}, {0x3b1, true, true}, {0x3c2, true, true}, {0x3c9, true, true}, {0x3ca, false, false},
		{0x2f, false, false}, {0x30, false, true}, {0x39, false, true}, {0x3a, false, false},
		{0x2031, false, false}, {0x2032, false, true}, {0x2033, false, false},
		{0x207f, false, false}, {0x2080, false, true}, {0x2089, false, true}, {0x208a, false, false},
		{0xfffd, false, false}, {-1, false, false}, {0, false, false},
	} {
		if start, rest := glyph.Start(c.r), glyph.Rest(c.r); start != c.start || rest != c.rest {
			t.Errorf("Start, Rest of %#x = %v, %v; want %v, %v", c.r, start, rest, c.start, c.rest)
		}
	}
}

func TestP4_1Reserved(t *testing.T) {
	for _, s := range reserved() {
		if !glyph.Reserved(s) {
			t.Errorf("Reserved(%q) = false", s)
		}
		for _, other := range []string{strings.ToUpper(s), strings.ToUpper(s[:1]) + s[1:], s + s, s + " ", " " + s, s + "\x00", s + "1", s + "′", s[:1], s[1:], "_" + s} {
			if glyph.Reserved(other) {
				t.Errorf("Reserved(%q) = true", other)
			}
		}
	}
	for _, s := range []string{"", "x", "iff", "implies", "exists", "forall", "∧", "∃", "<=", "let", "a", "\xff", "trueα"} {
		if glyph.Reserved(s) {
			t.Errorf("Reserved(%q) = true", s)
		}
	}
}

func TestP4_1Name(t *testing.T) {
	for _, s := range []string{
		"x", "x1", "And", "AND", "α₁", "x′", "ς", "_", "__", "_1", "Z9", "Ω", "Σ", "x′′", "x₀₉", "ανδ", "andor", "an", "nd", "and1", "and_", "and′", "not₀", "modulo", "True",
		strings.Repeat("a", 16), strings.Repeat("α", 16), "a" + strings.Repeat("₁", 15), "a" + strings.Repeat("0", 15), strings.Repeat("a", 15),
	} {
		if !glyph.Name(s) {
			t.Errorf("Name(%q) = false", s)
		}
	}
	for _, s := range []string{
		"", "1x", "1", "′", "′x", "₁", "₁x", "é", "xé", "x\xff", "\xff", "\xffx", "a b", " a", "a ", "a\n", "a\x00", "\x00", "x\uFFFD", "\uFFFD", "a-b", "a.b", "x≤", "∃", "\u03a2", "a\u03a2",
		"x\xce", "\xce", "x\xe2\x82", "a\u0301", "ａ",
		strings.Repeat("a", 17), strings.Repeat("α", 17), "a" + strings.Repeat("₁", 16), strings.Repeat("a", 16) + " ", strings.Repeat("a", 16) + "\xff", strings.Repeat("a", 100000),
	} {
		if glyph.Name(s) {
			t.Errorf("Name(%q) = true", s)
		}
	}
	for _, s := range reserved() {
		if glyph.Name(s) {
			t.Errorf("Name(%q) = true", s)
		}
	}
}

func TestP4_1NameOfEveryCharacter(t *testing.T) {
	isStart, isRest := among(starts), among(rests)
	everyRune(func(r rune) {
		if !utf8.ValidRune(r) {
			return
		}
		s := string(r)
		if got, want := glyph.Name(s), isStart(r); got != want {
			t.Errorf("Name(%q) = %v; want %v", s, got, want)
		}
		for _, s := range []string{"b" + s, "b" + s + "b", strings.Repeat("b", 15) + s} {
			if got, want := glyph.Name(s), isRest(r); got != want {
				t.Errorf("Name(%q) = %v; want %v", s, got, want)
			}
		}
	})
}

func TestP4_2Plain(t *testing.T) {
	plain := map[rune]string{
		0x2264: "<=", 0x2265: ">=", 0x2260: "!=", 0x2261: "~", 0x2212: "-", 0x00b7: "*", 0x2192: "->", 0x2194: "<->",
		0x2227: "and", 0x2228: "or", 0x00ac: "not", 0x2203: "ex", 0x2200: "all",
	}
	everyRune(func(r rune) {
		if got, want := glyph.Plain(r), plain[r]; got != want {
			t.Errorf("Plain(%#x) = %q; want %q", r, got, want)
		}
	})
	for r, want := range map[rune]string{'≤': "<=", '≥': ">=", '≠': "!=", '≡': "~", '−': "-", '·': "*", '→': "->", '↔': "<->", '∧': "and", '∨': "or", '¬': "not", '∃': "ex", '∀': "all", '<': "", '-': "", '~': ""} {
		if got := glyph.Plain(r); got != want {
			t.Errorf("Plain(%q) = %q; want %q", r, got, want)
		}
	}
}

func TestP4_3Good(t *testing.T) {
	for _, c := range []struct {
		s    string
		want int
	}{
		{"", 0}, {"a", 1}, {"aé", 3}, {"a\xe2\x82", 1}, {"\xef\xbf\xbd", 3}, {"\xff", 0}, {"\xffa", 0}, {"a\xffb\xff", 1},
		{"\uFFFD\xff", 3}, {"\uFFFD\uFFFD", 6}, {"\xff\uFFFD", 0}, {"\xef\xbf", 0}, {"\xef\xbf\xef\xbf\xbd", 0}, {"α\x80", 2},
		{"\xed\xa0\x80", 0}, {"x\xc0\xaf", 1}, {"\xf4\x90\x80\x80", 0}, {"\U0010FFFF", 4}, {"\x00", 1}, {"∃x.¬x≤2·y", 15},
		{strings.Repeat("é", 5000) + "\x80é", 10000},
	} {
		if got := glyph.Good(c.s); got != c.want {
			t.Errorf("Good(%q) = %d; want %d", c.s, got, c.want)
		}
	}
	for _, s := range texts() {
		if got, want := glyph.Good(s), firstBad(s); got != want {
			t.Errorf("Good(%q) = %d; want %d", s, got, want)
		}
		if got, want := glyph.Good(s) == len(s), utf8.ValidString(s); got != want {
			t.Errorf("Good(%q) = %d", s, glyph.Good(s))
		}
	}
}

func TestP4_4At(t *testing.T) {
	for _, c := range []struct {
		s         string
		at        int
		char      int
		wantError api.Errno
	}{
		{"aéb", 0, 0, api.OK}, {"aéb", 1, 1, api.OK}, {"aéb", 2, 2, api.OK}, {"aéb", 3, 2, api.OK}, {"aéb", 4, 3, api.OK},
		{"", 0, 0, api.OK}, {"a", 1, 1, api.OK},
		// Ahead of a byte within a character stand bytes of none, each of which counts.
		{"≤", 1, 1, api.OK}, {"≤", 2, 2, api.OK}, {"≤", 3, 1, api.OK}, {"\U0001F600", 3, 3, api.OK}, {"\U0001F600", 4, 1, api.OK},
		{"\xff\xff", 1, 1, api.OK}, {"\xff\xff", 2, 2, api.OK}, {"α\xff", 2, 1, api.OK}, {"α\xff", 3, 2, api.OK}, {"\uFFFD", 3, 1, api.OK},
		{"\n\n", 2, 2, api.OK}, {strings.Repeat("α", 2048), 4096, 2048, api.OK},
		{"a", 2, 0, api.ErrRange}, {"a", -1, 0, api.ErrRange}, {"", 1, 0, api.ErrRange}, {"", -1, 0, api.ErrRange}, {"é", 3, 0, api.ErrRange},
		{"a", math.MaxInt, 0, api.ErrRange}, {"a", math.MinInt, 0, api.ErrRange},
	} {
		want := api.Place{Byte: c.at, Char: c.char}
		if c.wantError != api.OK {
			want = api.Place{}
		}
		if got, err := glyph.At(c.s, c.at); got != want || err != c.wantError {
			t.Errorf("At(%q, %d) = %v, %d; want %v, %d", c.s, c.at, got, err, want, c.wantError)
		}
	}
}

func TestP4_4AtOfEveryByte(t *testing.T) {
	for _, s := range texts() {
		for at := -1; at <= len(s)+1; at++ {
			want, wantError := api.Place{}, api.ErrRange
			if at >= 0 && at <= len(s) {
				want, wantError = api.Place{Byte: at, Char: utf8.RuneCountInString(s[:at])}, api.OK
			}
			if got, err := glyph.At(s, at); got != want || err != wantError {
				t.Errorf("At(%q, %d) = %v, %d; want %v, %d", s, at, got, err, want, wantError)
			}
		}
	}
}

// lists are all lists of up to four of a few texts, not all of them names.
func lists() [][]string {
	few := []string{"a", "b", "_", "α", "B", "1", "and", ""}
	all := [][]string{nil}
	for start, size := 0, 1; size <= 4; size++ {
		end := len(all)
		for _, list := range all[start:end] {
			for _, s := range few {
				all = append(all, append(slices.Clone(list), s))
			}
		}
		start = end
	}
	return all
}

func isNoName(s string) bool {
	return !glyph.Name(s)
}

// twice tells whether a text stands at two places of the list.
func twice(list []string) bool {
	for i, s := range list {
		if slices.Contains(list[i+1:], s) {
			return true
		}
	}
	return false
}

func checkNames(t *testing.T, what string, got []string, err api.Errno, want []string, wantError api.Errno) {
	t.Helper()
	if !slices.Equal(got, want) || err != wantError {
		t.Errorf("%s = %q, %d; want %q, %d", what, got, err, want, wantError)
	}
}

func TestP4_5Rises(t *testing.T) {
	for _, c := range []struct {
		names []string
		want  bool
	}{
		{nil, true}, {[]string{}, true}, {[]string{"x"}, true}, {[]string{"x", "y"}, true}, {[]string{"y", "x"}, false}, {[]string{"x", "x"}, false},
		{[]string{"a", "c", "b"}, false}, {[]string{"b", "a", "c"}, false}, {[]string{"a", "b", "b"}, false}, {[]string{"Z", "_", "a", "α"}, true}, {[]string{"_", "Z"}, false},
		{[]string{"a", "a1", "aa", "aα"}, true}, {[]string{"x", "x′", "x₀", "x₁"}, true}, {[]string{"x₀", "x′"}, false}, {[]string{"x10", "x2"}, true}, {[]string{"x2", "x10"}, false},
		{[]string{"1"}, false}, {[]string{""}, false}, {[]string{"and"}, false}, {[]string{"a", "and"}, false}, {[]string{"a", "b\xff"}, false}, {[]string{"", "a"}, false},
		{[]string{"a", "b", "c", "d", "e", "f", "g", "h"}, true}, {[]string{strings.Repeat("a", 17)}, false},
	} {
		if got := glyph.Rises(c.names); got != c.want {
			t.Errorf("Rises(%q) = %v; want %v", c.names, got, c.want)
		}
	}
	for _, names := range lists() {
		want := !slices.ContainsFunc(names, isNoName) && slices.IsSorted(names) && !twice(names)
		if got := glyph.Rises(names); got != want {
			t.Errorf("Rises(%q) = %v; want %v", names, got, want)
		}
	}
}

func TestP4_5Sorted(t *testing.T) {
	for _, c := range []struct {
		names, want []string
		wantError   api.Errno
	}{
		{[]string{"y", "x"}, []string{"x", "y"}, api.OK}, {[]string{"Z", "a", "_", "α"}, []string{"Z", "_", "a", "α"}, api.OK},
		{nil, nil, api.OK}, {[]string{}, nil, api.OK}, {[]string{"x"}, []string{"x"}, api.OK}, {[]string{"x10", "x2", "x1"}, []string{"x1", "x10", "x2"}, api.OK},
		{[]string{"h", "g", "f", "e", "d", "c", "b", "a"}, []string{"a", "b", "c", "d", "e", "f", "g", "h"}, api.OK},
		{[]string{"y", "y"}, nil, api.ErrTwice}, {[]string{"y", "x", "y"}, nil, api.ErrTwice}, {[]string{"y", "x", "z", "x"}, nil, api.ErrTwice},
		{[]string{"y", "1"}, nil, api.ErrName}, {[]string{""}, nil, api.ErrName}, {[]string{"or", "x"}, nil, api.ErrName}, {[]string{"x", "x\xff"}, nil, api.ErrName},
		// ErrName is named first.
		{[]string{"y", "y", "1"}, nil, api.ErrName}, {[]string{"1", "1"}, nil, api.ErrName}, {[]string{"and", "y", "y"}, nil, api.ErrName},
	} {
		got, err := glyph.Sorted(c.names)
		checkNames(t, "Sorted", got, err, c.want, c.wantError)
	}
	for _, names := range lists() {
		var want []string
		wantError := api.OK
		if slices.ContainsFunc(names, isNoName) {
			wantError = api.ErrName
		} else if twice(names) {
			wantError = api.ErrTwice
		} else {
			want = slices.Sorted(slices.Values(names))
		}
		got, err := glyph.Sorted(names)
		checkNames(t, "Sorted", got, err, want, wantError)
	}
}

func TestP4_5Union(t *testing.T) {
	for _, c := range []struct {
		a, b, want []string
		wantError  api.Errno
	}{
		{[]string{"a", "c"}, []string{"b", "c"}, []string{"a", "b", "c"}, api.OK}, {nil, nil, nil, api.OK}, {[]string{}, nil, nil, api.OK},
		{[]string{"a"}, nil, []string{"a"}, api.OK}, {nil, []string{"a", "b"}, []string{"a", "b"}, api.OK}, {[]string{"a", "b"}, []string{"a", "b"}, []string{"a", "b"}, api.OK},
		{[]string{"x", "y"}, []string{"a", "b"}, []string{"a", "b", "x", "y"}, api.OK}, {[]string{"Z", "a"}, []string{"_", "α"}, []string{"Z", "_", "a", "α"}, api.OK},
		{[]string{"a", "b", "c", "d", "e"}, []string{"f", "g", "h", "i", "j"}, []string{"a", "b", "c", "d", "e", "f", "g", "h", "i", "j"}, api.OK},
		{[]string{"b", "a"}, nil, nil, api.ErrShape}, {nil, []string{"b", "a"}, nil, api.ErrShape}, {[]string{"a", "a"}, []string{"b"}, nil, api.ErrShape},
		{[]string{"b"}, []string{"a", "a"}, nil, api.ErrShape}, {[]string{"1"}, []string{"a"}, nil, api.ErrShape}, {[]string{"a"}, []string{"mod"}, nil, api.ErrShape},
		{[]string{""}, []string{""}, nil, api.ErrShape},
	} {
		got, err := glyph.Union(c.a, c.b)
		checkNames(t, "Union", got, err, c.want, c.wantError)
	}
}

// Out of all names in their order, each of two lists takes some.
func TestP4_5UnionOfAllParts(t *testing.T) {
	all := []string{"A", "_", "a", "b", "α"}
	part := func(set int) []string {
		var list []string
		for i, name := range all {
			if set>>i&1 == 1 {
				list = append(list, name)
			}
		}
		return list
	}
	for a := range 1 << len(all) {
		for b := range 1 << len(all) {
			got, err := glyph.Union(part(a), part(b))
			checkNames(t, "Union", got, err, part(a|b), api.OK)
		}
	}
}

func TestP4_5Index(t *testing.T) {
	for _, c := range []struct {
		names []string
		name  string
		want  int
	}{
		{[]string{"a", "b", "c"}, "a", 0}, {[]string{"a", "b", "c"}, "c", 2}, {[]string{"a", "b", "c"}, "d", -1}, {nil, "a", -1}, {[]string{}, "", -1}, {nil, "", -1},
		{[]string{"b", "a", "b", "a"}, "a", 1}, {[]string{"x", "x"}, "x", 0}, {[]string{"c", "b", "a"}, "a", 2},
		{[]string{"and", "", "1 x", "\xff"}, "", 1}, {[]string{"and", "", "1 x", "\xff"}, "\xff", 3}, {[]string{"and", "", "1 x", "\xff"}, "and", 0},
		{[]string{"and", "", "1 x", "\xff"}, "\xfe", -1}, {[]string{"\uFFFD"}, "\xff", -1}, {[]string{"A"}, "a", -1},
	} {
		if got := glyph.Index(c.names, c.name); got != c.want {
			t.Errorf("Index(%q, %q) = %d; want %d", c.names, c.name, got, c.want)
		}
	}
}

// Rule 3: arguments stay as they are, their spare room too, and answers are new memory, with theirs.
func TestCallsLeaveTheirLists(t *testing.T) {
	mixed := []string{"c", "b", "a", "9"}
	rising := []string{"a", "b", "c", "9"}
	mixedBefore, risingBefore := slices.Clone(mixed), slices.Clone(rising)
	glyph.Rises(rising[:3])
	glyph.Index(rising[:3], "9")
	answers := make([][]string, 7)
	answers[0], _ = glyph.Sorted(mixed[:3])
	answers[1], _ = glyph.Sorted(rising[:3])
	answers[2], _ = glyph.Sorted(rising[:0])
	answers[3], _ = glyph.Union(rising[:2], rising[1:3])
	answers[4], _ = glyph.Union(rising[:3], nil)
	answers[5], _ = glyph.Union(rising[:0], rising[:3])
	answers[6], _ = glyph.Union(rising[:0], rising[:0])
	for _, list := range answers {
		whole := list[:cap(list)]
		for i := range whole {
			whole[i] = "written over"
		}
	}
	glyph.Sorted(mixed)
	glyph.Union(mixed, rising)
	if !slices.Equal(mixed, mixedBefore) || !slices.Equal(rising, risingBefore) {
		t.Errorf("the lists became %q, %q; were %q, %q", mixed, rising, mixedBefore, risingBefore)
	}
}
