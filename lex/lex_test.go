package lex_test

import (
	"math"
	"math/big"
	"regexp"
	"slices"
	"strings"
	"testing"
	"unicode/utf8"
	"unsafe"

	"tabard/api"
	"tabard/lex"
)

func name(text string, at, char int) api.Word {
	return api.Word{Kind: api.WordName, Text: text, At: api.Place{Byte: at, Char: char}}
}

func number(value int64, at, char int) api.Word {
	return api.Word{Kind: api.WordNumber, Number: value, At: api.Place{Byte: at, Char: char}}
}

func sign(text string, at, char int) api.Word {
	return api.Word{Kind: api.WordSign, Text: text, At: api.Place{Byte: at, Char: char}}
}

func fault(why api.Errno, at, char int) api.Fault {
	return api.Fault{Why: why, At: api.Place{Byte: at, Char: char}}
}

func check(t *testing.T, s string, want []api.Word, wantFault api.Fault) {
	t.Helper()
	if got, f := lex.Words(s); !slices.Equal(got, want) || f != wantFault {
		t.Errorf("Words(%q) = %v, %v; want %v, %v", s, got, f, want, wantFault)
	}
}

// allSigns lists the signs as the document does.
func allSigns() []string {
	return strings.Fields("( ) [ ] , . + - * = != <= >= < > -> <-> ~")
}

func allReserved() []string {
	return []string{"and", "or", "not", "ex", "all", "mod", "true", "false"}
}

// plain is the sign or word for which a character stands.
func plain() map[string]string {
	return map[string]string{
		"\u2264": "<=", "\u2265": ">=", "\u2260": "!=", "\u2261": "~", "\u2212": "-", "\u00b7": "*", "\u2192": "->", "\u2194": "<->",
		"\u2227": "and", "\u2228": "or", "\u00ac": "not", "\u2203": "ex", "\u2200": "all",
	}
}

// reference reads texts by regular expressions, which take the first choice that fits: of signs the longer ones stand ahead.
type reference struct {
	blanks, run, digits, sign *regexp.Regexp
	plain                     map[string]string
}

func newReference() reference {
	const first = `A-Za-z_\x{391}-\x{3a1}\x{3a3}-\x{3a9}\x{3b1}-\x{3c9}`
	return reference{
		blanks: regexp.MustCompile(`^[ \t\n\r]+`),
		run:    regexp.MustCompile(`^[` + first + `][` + first + `0-9\x{2032}\x{2080}-\x{2089}]*`),
		digits: regexp.MustCompile(`^[0-9]+`),
		sign:   regexp.MustCompile(`^(?:<->|->|!=|<=|>=|[()\[\],.+*=<>~-])`),
		plain:  plain(),
	}
}

func (ref reference) words(s string) ([]api.Word, api.Fault) {
	if len(s) > 4096 {
		return nil, fault(api.ErrLong, 0, 0)
	}
	var words []api.Word
	for at := 0; at < len(s); {
		rest := s[at:]
		if blanks := ref.blanks.FindString(rest); blanks != "" {
			at += len(blanks)
			continue
		}
		word, size, why := ref.first(rest)
		place := api.Place{Byte: at, Char: utf8.RuneCountInString(s[:at])}
		if why != api.OK {
			return nil, api.Fault{Why: why, At: place}
		}
		word.At = place
		words = append(words, word)
		at += size
	}
	return words, api.Fault{}
}

func (ref reference) first(s string) (api.Word, int, api.Errno) {
	r, width := utf8.DecodeRuneInString(s)
	if r == utf8.RuneError && width == 1 {
		return api.Word{}, 0, api.ErrBytes
	}
	if run := ref.run.FindString(s); run != "" {
		if slices.Contains(allReserved(), run) {
			return sign(run, 0, 0), len(run), api.OK
		}
		if utf8.RuneCountInString(run) > 16 {
			return api.Word{}, 0, api.ErrName
		}
		return name(run, 0, 0), len(run), api.OK
	}
	if digits := ref.digits.FindString(s); digits != "" {
		value, _ := new(big.Int).SetString(digits, 10)
		if !value.IsInt64() {
			return api.Word{}, 0, api.ErrNumber
		}
		return number(value.Int64(), 0, 0), len(digits), api.OK
	}
	if text := ref.plain[s[:width]]; text != "" {
		return sign(text, 0, 0), width, api.OK
	}
	if text := ref.sign.FindString(s); text != "" {
		return sign(text, 0, 0), len(text), api.OK
	}
	return api.Word{}, 0, api.ErrSign
}

func (ref reference) check(t *testing.T, s string) {
	t.Helper()
	want, wantFault := ref.words(s)
	check(t, s, want, wantFault)
}

// pieces are texts of each kind, right ones and wrong ones, out of which longer ones are put together.
func pieces() []string {
	list := []string{
		"x", "x1", "_", "α₁", "x′", "Ω", "and_", "andx", "And", "e", "a", strings.Repeat("a", 16), strings.Repeat("α", 16),
		"0", "7", "007", "9223372036854775807", "9223372036854775808", strings.Repeat("0", 30) + "1",
		" ", "\t", "\n", "\r", " \t\r\n ",
		"!", "&", "é", "\u03a2", "\u2033", "₁", "′", "\uFFFD", "\u00a0", "\v", "\x00", "{", ":", "/", "|", "^", "#", "'", "\"", "\ufeff", "\U0001F600",
		"\xff", "\x80", "\xce", "\xe2\x82", "\xe2\x89", "\xed\xa0\x80", "\xc0\xaf", "\xef\xbf",
		strings.Repeat("a", 17), strings.Repeat("α", 17),
	}
	for character := range plain() {
		list = append(list, character)
	}
	slices.Sort(list)
	return slices.Concat(list, allSigns(), allReserved())
}

func TestP5_1Words(t *testing.T) {
	for _, c := range []struct {
		s    string
		want []api.Word
	}{
		{"", nil}, {" \t", nil}, {"\r\n", nil},
		{"x1 <= 07", []api.Word{name("x1", 0, 0), sign("<=", 3, 3), number(7, 6, 6)}},
		{"∃x.¬x≤2·y", []api.Word{
			sign("ex", 0, 0), name("x", 3, 1), sign(".", 4, 2), sign("not", 5, 3), name("x", 7, 4), sign("<=", 8, 5), number(2, 11, 6), sign("*", 12, 7), name("y", 14, 8),
		}},
		{"2x", []api.Word{number(2, 0, 0), name("x", 1, 1)}},
		{"<->-><", []api.Word{sign("<->", 0, 0), sign("->", 3, 3), sign("<", 5, 5)}},
		{"a-b", []api.Word{name("a", 0, 0), sign("-", 1, 1), name("b", 2, 2)}},
		{"x 9223372036854775807", []api.Word{name("x", 0, 0), number(math.MaxInt64, 2, 2)}},
		{"\n α₁\t+ x′", []api.Word{name("α₁", 2, 2), sign("+", 8, 5), name("x′", 10, 7)}},
		{"-1", []api.Word{sign("-", 0, 0), number(1, 1, 1)}},
		{"ex x, y. [x] ~ 1 mod 2", []api.Word{
			sign("ex", 0, 0), name("x", 3, 3), sign(",", 4, 4), name("y", 6, 6), sign(".", 7, 7), sign("[", 9, 9), name("x", 10, 10), sign("]", 11, 11),
			sign("~", 13, 13), number(1, 15, 15), sign("mod", 17, 17), number(2, 21, 21),
		}},
	} {
		check(t, c.s, c.want, api.Fault{})
	}
}

func TestP5_1Long(t *testing.T) {
	for _, s := range []string{" ", "x", "\xff", "!", "9", "(", "\x00"} {
		check(t, strings.Repeat(s, 4097), nil, fault(api.ErrLong, 0, 0))
		check(t, strings.Repeat(s, 100000), nil, fault(api.ErrLong, 0, 0))
	}
	// The bytes are counted, not the characters.
	check(t, strings.Repeat("≤", 1366), nil, fault(api.ErrLong, 0, 0))
	check(t, strings.Repeat(" ", 4096), nil, api.Fault{})
	check(t, strings.Repeat(" ", 4095)+"x", []api.Word{name("x", 4095, 4095)}, api.Fault{})
	check(t, strings.Repeat("0", 4095)+"1", []api.Word{number(1, 0, 0)}, api.Fault{})
	check(t, strings.Repeat("9", 4096), nil, fault(api.ErrNumber, 0, 0))
	check(t, strings.Repeat("x", 4096), nil, fault(api.ErrName, 0, 0))
	check(t, strings.Repeat(" ", 4095)+"\xff", nil, fault(api.ErrBytes, 4095, 4095))
	check(t, strings.Repeat(" ", 4093)+"≤", []api.Word{sign("<=", 4093, 4093)}, api.Fault{})
	if words, f := lex.Words(strings.Repeat("(", 4096)); len(words) != 4096 || f != (api.Fault{}) || words[4095] != sign("(", 4095, 4095) {
		t.Errorf("of 4096 brackets %d words, %v", len(words), f)
	}
	if words, f := lex.Words(strings.Repeat("α ", 1365)); len(words) != 1365 || f != (api.Fault{}) || words[1364] != name("α", 4092, 2728) {
		t.Errorf("of 1365 names %d words, %v", len(words), f)
	}
}

func TestP5_1Bytes(t *testing.T) {
	for _, bad := range []string{"\xff", "\x80", "\xce", "\xe2\x82", "\xed\xa0\x80", "\xc0\xaf", "\xf4\x90\x80\x80", "\xef\xbf"} {
		for ahead, place := range map[string]api.Place{"": {}, "α": {Byte: 2, Char: 1}, "x ": {Byte: 2, Char: 2}, "∃": {Byte: 3, Char: 1}, "12": {Byte: 2, Char: 2}, "<": {Byte: 1, Char: 1}, "and": {Byte: 3, Char: 3}} {
			for _, behind := range []string{"", "x", " !", "\xff"} {
				check(t, ahead+bad+behind, nil, api.Fault{Why: api.ErrBytes, At: place})
			}
		}
	}
	// U+FFFD written out is a character, though range gives it for a byte of none, too.
	check(t, "\uFFFD", nil, fault(api.ErrSign, 0, 0))
	check(t, "x\uFFFD\xff", nil, fault(api.ErrSign, 1, 1))
	check(t, "x\xff\uFFFD", nil, fault(api.ErrBytes, 1, 1))
}

// Rule 6: of several faults the first one from the left is told, whatever its kind.
func TestP5_1FirstFault(t *testing.T) {
	wrong := map[string]api.Errno{"\xff": api.ErrBytes, strings.Repeat("b", 17): api.ErrName, "9223372036854775808": api.ErrNumber, "!": api.ErrSign}
	for first, why := range wrong {
		for second := range wrong {
			check(t, first+" "+second, nil, fault(why, 0, 0))
			check(t, "α∧ "+first+" "+second+" "+first, nil, fault(why, 6, 3))
		}
	}
}

func TestP5_1Names(t *testing.T) {
	for _, s := range []string{"x", "_", "x1", "α₁", "x′", "ς", "Ω", "And", "AND", "andx", "xand", "and1", "and_", "and′", "or₀", "an", "iff", strings.Repeat("a", 16), strings.Repeat("α", 16), "a" + strings.Repeat("₁", 15)} {
		check(t, s, []api.Word{name(s, 0, 0)}, api.Fault{})
		check(t, "("+s+")", []api.Word{sign("(", 0, 0), name(s, 1, 1), sign(")", 1+len(s), 1+utf8.RuneCountInString(s))}, api.Fault{})
	}
	for _, s := range allReserved() {
		check(t, s, []api.Word{sign(s, 0, 0)}, api.Fault{})
		check(t, s+"."+s, []api.Word{sign(s, 0, 0), sign(".", len(s), len(s)), sign(s, len(s)+1, len(s)+1)}, api.Fault{})
		check(t, s+s, []api.Word{name(s+s, 0, 0)}, api.Fault{})
		check(t, "2"+s, []api.Word{number(2, 0, 0), sign(s, 1, 1)}, api.Fault{})
	}
	for _, s := range []string{strings.Repeat("a", 17), strings.Repeat("α", 17), "a" + strings.Repeat("1", 16), "x" + strings.Repeat("′", 16), strings.Repeat("and", 6), strings.Repeat("a", 17) + "\xff", strings.Repeat("a", 17) + "!"} {
		check(t, s, nil, fault(api.ErrName, 0, 0))
		check(t, "≤ "+s, nil, fault(api.ErrName, 4, 2))
	}
	// What only goes on with a name begins none.
	check(t, "₁x", nil, fault(api.ErrSign, 0, 0))
	check(t, "2′", nil, fault(api.ErrSign, 1, 1))
}

func TestP5_1Numbers(t *testing.T) {
	for s, want := range map[string]int64{
		"0": 0, "00": 0, "1": 1, "07": 7, "10": 10, "1234567890": 1234567890, "9223372036854775807": math.MaxInt64, "009223372036854775807": math.MaxInt64,
		"9223372036854775799": math.MaxInt64 - 8, "0000000000000000000000000000000000000042": 42, "08": 8, "0010": 10,
	} {
		check(t, s, []api.Word{number(want, 0, 0)}, api.Fault{})
		check(t, "-"+s+"x", []api.Word{sign("-", 0, 0), number(want, 1, 1), name("x", 1+len(s), 1+len(s))}, api.Fault{})
	}
	for _, s := range []string{"9223372036854775808", "09223372036854775808", "9223372036854775810", "9300000000000000000", "10000000000000000000", "18446744073709551615", "18446744073709551616", "18446744073709551617", "36893488147419103233", strings.Repeat("9", 400)} {
		check(t, s, nil, fault(api.ErrNumber, 0, 0))
		check(t, "x = -"+s+"\xff", nil, fault(api.ErrNumber, 5, 5))
	}
	// Forms of other languages are words side by side.
	check(t, "0x1f", []api.Word{number(0, 0, 0), name("x1f", 1, 1)}, api.Fault{})
	check(t, "1_000", []api.Word{number(1, 0, 0), name("_000", 1, 1)}, api.Fault{})
	check(t, "1.5", []api.Word{number(1, 0, 0), sign(".", 1, 1), number(5, 2, 2)}, api.Fault{})
	check(t, "1 2", []api.Word{number(1, 0, 0), number(2, 2, 2)}, api.Fault{})
	check(t, "٣", nil, fault(api.ErrSign, 0, 0))
}

func TestP5_1Signs(t *testing.T) {
	for _, s := range allSigns() {
		check(t, s, []api.Word{sign(s, 0, 0)}, api.Fault{})
		check(t, "α"+s+"1", []api.Word{name("α", 0, 0), sign(s, 2, 1), number(1, 2+len(s), 1+len(s))}, api.Fault{})
	}
	for s, want := range plain() {
		check(t, s, []api.Word{sign(want, 0, 0)}, api.Fault{})
		check(t, s+"x"+s+s, []api.Word{sign(want, 0, 0), name("x", len(s), 1), sign(want, len(s)+1, 2), sign(want, 2*len(s)+1, 3)}, api.Fault{})
	}
	check(t, "<-", []api.Word{sign("<", 0, 0), sign("-", 1, 1)}, api.Fault{})
	check(t, "<-->", []api.Word{sign("<", 0, 0), sign("-", 1, 1), sign("->", 2, 2)}, api.Fault{})
	check(t, "< =", []api.Word{sign("<", 0, 0), sign("=", 2, 2)}, api.Fault{})
	check(t, "=<", []api.Word{sign("=", 0, 0), sign("<", 1, 1)}, api.Fault{})
	check(t, "<−>", []api.Word{sign("<", 0, 0), sign("-", 1, 1), sign(">", 4, 2)}, api.Fault{})
	check(t, "∧x", []api.Word{sign("and", 0, 0), name("x", 3, 1)}, api.Fault{})
}

func TestP5_1NoSign(t *testing.T) {
	check(t, "x ! y", nil, fault(api.ErrSign, 2, 2))
	check(t, "x & y", nil, fault(api.ErrSign, 2, 2))
	check(t, "é", nil, fault(api.ErrSign, 0, 0))
	check(t, "! =", nil, fault(api.ErrSign, 0, 0))
	check(t, "!", nil, fault(api.ErrSign, 0, 0))
	check(t, "!≤", nil, fault(api.ErrSign, 0, 0))
	check(t, "≤é", nil, fault(api.ErrSign, 3, 1))
	check(t, "xé", nil, fault(api.ErrSign, 1, 1))
	check(t, "x\u00a0", nil, fault(api.ErrSign, 1, 1))
	check(t, "\v", nil, fault(api.ErrSign, 0, 0))
	check(t, "\x00", nil, fault(api.ErrSign, 0, 0))
}

// Each character, alone, within a name, behind a digit, and behind a sign of which it might make a longer one.
func TestP5_1EveryCharacter(t *testing.T) {
	ref := newReference()
	for r := rune(0); r <= utf8.MaxRune; r++ {
		// Far above all characters that the document names, some stand for the rest.
		if !utf8.ValidRune(r) || r > 0x3000 && r < 0xff00 && r%17 != 0 || r > 0x10000 && r%1009 != 0 && r != utf8.MaxRune {
			continue
		}
		for _, ahead := range []string{"", "x", "1", "<", "!"} {
			ref.check(t, ahead+string(r))
		}
		ref.check(t, "α"+string(r)+"1")
	}
}

func TestP5_1EveryByte(t *testing.T) {
	ref := newReference()
	for a := range 256 {
		for b := range 256 {
			ref.check(t, string([]byte{byte(a), byte(b)}))
			ref.check(t, string([]byte{'x', 0xe2, byte(a), byte(b)}))
		}
	}
}

// All texts of up to seven of the characters of which the longer signs are made.
func TestP5_1SignsSideBySide(t *testing.T) {
	ref := newReference()
	level := []string{""}
	for range 7 {
		var longer []string
		for _, s := range level {
			for _, c := range []string{"<", "-", ">", "=", "!"} {
				longer = append(longer, s+c)
			}
		}
		for _, s := range longer {
			ref.check(t, s)
		}
		level = longer
	}
}

func TestP5_1Pieces(t *testing.T) {
	ref := newReference()
	all := pieces()
	for i, a := range all {
		ref.check(t, a)
		for j, b := range all {
			ref.check(t, a+b)
			ref.check(t, "α≤ "+a+b)
			ref.check(t, a+b+all[(3*i+5*j)%len(all)]+all[(7*i+j)%len(all)])
		}
	}
}

// moved is the words with their places behind the text and a blank.
func moved(words []api.Word, ahead string) []api.Word {
	list := slices.Clone(words)
	for i := range list {
		list[i].At.Byte += len(ahead) + 1
		list[i].At.Char += utf8.RuneCountInString(ahead) + 1
	}
	return list
}

func TestP5_2PutTogether(t *testing.T) {
	var texts []string
	all := append(pieces(), "")
	for i, a := range all {
		texts = append(texts, a, a+all[(5*i+3)%len(all)], a+" "+all[(11*i+1)%len(all)]+all[(3*i+7)%len(all)])
	}
	for _, a := range texts {
		first, firstFault := lex.Words(a)
		if firstFault != (api.Fault{}) {
			continue
		}
		for i, b := range texts {
			second, secondFault := lex.Words(b)
			if secondFault != (api.Fault{}) {
				continue
			}
			blank := " \t\n\r"[i%4 : i%4+1]
			check(t, a+blank+b, slices.Concat(first, moved(second, a)), api.Fault{})
		}
	}
	// 2047 and 2048 bytes and the blank are as long as a text may be; one more is too long.
	half := strings.Repeat("α ", 682) + "x"
	words, _ := lex.Words(half)
	check(t, half+" "+half+" ", slices.Concat(words, moved(words, half)), api.Fault{})
	check(t, half+" "+half+"  ", nil, fault(api.ErrLong, 0, 0))
}

// Rules 2 and 3: nothing is kept from call to call, and what is answered is new memory.
func TestWordsAreNew(t *testing.T) {
	const s = "ex long_name. long_name <= 2 and x ≠ 1"
	want, _ := lex.Words(s)
	want = slices.Clone(want)
	for _, other := range []string{"y", "!", "", "\xff", strings.Repeat(" ", 5000)} {
		again, f := lex.Words(s)
		if !slices.Equal(again, want) || f != (api.Fault{}) {
			t.Fatalf("Words(%q) = %v, %v; first it was %v", s, again, f, want)
		}
		whole := again[:cap(again)]
		for i := range whole {
			whole[i] = number(-1, -1, -1)
		}
		lex.Words(other)
	}
	text := strings.Clone(s)
	from := uintptr(unsafe.Pointer(unsafe.StringData(text)))
	words, _ := lex.Words(text)
	for _, w := range words {
		at := uintptr(unsafe.Pointer(unsafe.StringData(w.Text)))
		if w.Text != "" && at >= from && at < from+uintptr(len(text)) {
			t.Errorf("the word %q is a piece of the text", w.Text)
		}
	}
}

func FuzzP5_1Words(f *testing.F) {
	for _, s := range pieces() {
		f.Add(s)
	}
	f.Add("∃x.¬x≤2·y and [α₁ + 07] ~ 1 mod 3 <-> ! \xff")
	ref := newReference()
	f.Fuzz(func(t *testing.T, s string) {
		ref.check(t, s)
	})
}
