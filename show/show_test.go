package show_test

import (
	"fmt"
	"math"
	"math/rand/v2"
	"strconv"
	"strings"
	"testing"
	"unsafe"

	"tabard/api"
	"tabard/parse"
	"tabard/show"
	"tabard/tree"
)

func num(n int64) api.Term { return api.Term{Op: api.TermNumber, Number: n} }

func name(s string) api.Term { return api.Term{Op: api.TermName, Name: s} }

func term(op api.TermOp, args ...api.Term) api.Term { return api.Term{Op: op, Args: args} }

func neg(t api.Term) api.Term { return term(api.TermNeg, t) }

func add(a, b api.Term) api.Term { return term(api.TermAdd, a, b) }

func sub(a, b api.Term) api.Term { return term(api.TermSub, a, b) }

func mul(a, b api.Term) api.Term { return term(api.TermMul, a, b) }

func atom(op api.Op, a, b api.Term) api.Formula {
	return api.Formula{Op: op, Terms: []api.Term{a, b}}
}

func eq(a, b api.Term) api.Formula { return atom(api.Eq, a, b) }

func cong(a, b api.Term, modulus int64) api.Formula {
	return api.Formula{Op: api.Cong, Modulus: modulus, Terms: []api.Term{a, b}}
}

func of(op api.Op, args ...api.Formula) api.Formula { return api.Formula{Op: op, Args: args} }

func bind(op api.Op, s string, f api.Formula) api.Formula {
	return api.Formula{Op: op, Name: s, Args: []api.Formula{f}}
}

// tell writes all fields of the tree down, so that nil and empty lists are one.
func tell(f api.Formula) string {
	text := fmt.Sprintf("{%d %q %d", f.Op, f.Name, f.Modulus)
	for _, t := range f.Terms {
		text += " " + tellTerm(t)
	}
	for _, part := range f.Args {
		text += " " + tell(part)
	}
	return text + "}"
}

func tellTerm(t api.Term) string {
	text := fmt.Sprintf("<%d %d %q", t.Op, t.Number, t.Name)
	for _, part := range t.Args {
		text += " " + tellTerm(part)
	}
	return text + ">"
}

// rows is the document's table: A and B, S and T stand for the parts' texts, N for the Name, M for the Modulus.
var rows = map[api.Op]string{
	api.True: "true", api.False: "false", api.Not: "not A",
	api.And: "(A and B)", api.Or: "(A or B)", api.Implies: "(A -> B)", api.Iff: "(A <-> B)",
	api.Ex: "ex N. A", api.All: "all N. A",
	api.Le: "S <= T", api.Lt: "S < T", api.Ge: "S >= T", api.Gt: "S > T", api.Eq: "S = T", api.Ne: "S != T",
	api.Cong: "S ~ T mod M",
}

var termRows = map[api.TermOp]string{
	api.TermNumber: "M", api.TermName: "N", api.TermNeg: "-S", api.TermAdd: "S + T", api.TermSub: "S - T", api.TermMul: "S * T",
}

// fill puts the texts in for the letters of a row, all at one time.
func fill(row, name string, number int64, letters string, parts []string) string {
	pairs := []string{"N", name, "M", strconv.FormatInt(number, 10)}
	for i, part := range parts {
		pairs = append(pairs, letters[i:i+1], part)
	}
	return strings.NewReplacer(pairs...).Replace(row)
}

// reference is the text of a right tree by the document's table.
func reference(f api.Formula) string {
	letters, parts := "AB", []string(nil)
	for _, part := range f.Args {
		parts = append(parts, reference(part))
	}
	for _, t := range f.Terms {
		letters, parts = "ST", append(parts, referenceTerm(t))
	}
	return fill(rows[f.Op], f.Name, f.Modulus, letters, parts)
}

func referenceTerm(t api.Term) string {
	var parts []string
	for i, part := range t.Args {
		text := referenceTerm(part)
		if bracketed(part.Op, t.Op, i == 1) {
			text = "[" + text + "]"
		}
		parts = append(parts, text)
	}
	return fill(termRows[t.Op], t.Name, t.Number, "ST", parts)
}

// bracketed tells whether square brackets stand round a part of a term, in the document's words.
func bracketed(part, whole api.TermOp, second bool) bool {
	switch part {
	case api.TermAdd, api.TermSub:
		return whole == api.TermNeg || whole == api.TermMul || (whole == api.TermAdd || whole == api.TermSub) && second
	case api.TermMul:
		return whole == api.TermNeg || whole == api.TermMul && second
	}
	return false
}

// hold holds the formula's text against the table, and what layer 7 reads of it against the formula.
func hold(t *testing.T, f api.Formula) string {
	t.Helper()
	want, wantErr := "", tree.Check(f)
	if wantErr == api.OK {
		want = reference(f)
	}
	got, err := show.Formula(f)
	if got != want || err != wantErr {
		t.Fatalf("P8.1: Formula(%.500s) = %.500q, %d; want %.500q, %d", tell(f), got, err, want, wantErr)
	}
	if wantErr != api.OK {
		return got
	}
	read, w := parse.Formula(got)
	if len(got) > api.MaxText {
		if w.Why != api.ErrLong {
			t.Fatalf("P8.2: %.500q of %d bytes: %v; want ErrLong", got, len(got), w)
		}
		return got
	}
	if w != (api.Fault{}) || tell(read) != tell(f) {
		t.Fatalf("P8.2: %.500q is read as %.500s, %v; want %.500s", got, tell(read), w, tell(f))
	}
	return got
}

// holdTerm does the same with a term.
func holdTerm(t *testing.T, x api.Term) string {
	t.Helper()
	want, wantErr := "", tree.CheckTerm(x)
	if wantErr == api.OK {
		want = referenceTerm(x)
	}
	got, err := show.Term(x)
	if got != want || err != wantErr {
		t.Fatalf("P8.1: Term(%.500s) = %.500q, %d; want %.500q, %d", tellTerm(x), got, err, want, wantErr)
	}
	if wantErr != api.OK {
		return got
	}
	read, w := parse.Term(got)
	if len(got) > api.MaxText {
		if w.Why != api.ErrLong {
			t.Fatalf("P8.2: %.500q of %d bytes: %v; want ErrLong", got, len(got), w)
		}
		return got
	}
	if w != (api.Fault{}) || tellTerm(read) != tellTerm(x) {
		t.Fatalf("P8.2: %.500q is read as %.500s, %v; want %.500s", got, tellTerm(read), w, tellTerm(x))
	}
	return got
}

func TestP8_1Examples(t *testing.T) {
	x, y := name("x"), name("y")
	for _, c := range []struct {
		f    api.Formula
		want string
	}{
		{of(api.Or, of(api.And, atom(api.Le, x, num(1)), of(api.Not, eq(y, num(2)))), of(api.True)), "((x <= 1 and not y = 2) or true)"},
		{bind(api.Ex, "x", bind(api.Ex, "y", eq(x, y))), "ex x. ex y. x = y"},
		{cong(sub(x, sub(y, num(1))), mul(num(2), add(x, num(3))), 5), "x - [y - 1] ~ 2 * [x + 3] mod 5"},
		{eq(neg(neg(x)), neg(mul(num(2), x))), "--x = -[2 * x]"},
		{eq(mul(mul(num(2), x), y), mul(num(2), mul(x, y))), "2 * x * y = 2 * [x * y]"},
		{eq(add(add(x, num(1)), num(2)), mul(neg(x), num(3))), "x + 1 + 2 = -x * 3"},
	} {
		if got, err := show.Formula(c.f); got != c.want || err != api.OK {
			t.Errorf("P8.1: Formula(%s) = %q, %d; want %q", tell(c.f), got, err, c.want)
		}
		hold(t, c.f)
	}
}

func TestP8_1EveryKindOfFormula(t *testing.T) {
	a, b := eq(name("x"), num(0)), of(api.False)
	s, r := sub(num(1), name("y")), mul(name("x"), num(20))
	for _, c := range []struct {
		f    api.Formula
		want string
	}{
		{of(api.True), "true"},
		{of(api.False), "false"},
		{of(api.Not, a), "not x = 0"},
		{of(api.Not, of(api.Not, b)), "not not false"},
		{of(api.And, a, b), "(x = 0 and false)"},
		{of(api.Or, a, b), "(x = 0 or false)"},
		{of(api.Implies, a, b), "(x = 0 -> false)"},
		{of(api.Iff, a, b), "(x = 0 <-> false)"},
		{of(api.Not, of(api.And, a, b)), "not (x = 0 and false)"},
		{bind(api.Ex, "x", a), "ex x. x = 0"},
		{bind(api.All, "αβ′", of(api.Or, b, a)), "all αβ′. (false or x = 0)"},
		{bind(api.All, "x", bind(api.Ex, "x", of(api.Not, a))), "all x. ex x. not x = 0"},
		{of(api.And, bind(api.Ex, "x", a), bind(api.All, "x", b)), "(ex x. x = 0 and all x. false)"},
		{of(api.Or, of(api.Or, a, b), b), "((x = 0 or false) or false)"},
		{of(api.Or, a, of(api.Or, b, b)), "(x = 0 or (false or false))"},
		{atom(api.Le, s, r), "1 - y <= x * 20"},
		{atom(api.Lt, s, r), "1 - y < x * 20"},
		{atom(api.Ge, s, r), "1 - y >= x * 20"},
		{atom(api.Gt, s, r), "1 - y > x * 20"},
		{atom(api.Eq, s, r), "1 - y = x * 20"},
		{atom(api.Ne, s, r), "1 - y != x * 20"},
		{cong(s, r, 1), "1 - y ~ x * 20 mod 1"},
		{cong(r, s, math.MaxInt64), "x * 20 ~ 1 - y mod 9223372036854775807"},
		{atom(api.Lt, neg(s), neg(r)), "-[1 - y] < -[x * 20]"},
	} {
		if got, err := show.Formula(c.f); got != c.want || err != api.OK {
			t.Errorf("P8.1: Formula(%s) = %q, %d; want %q", tell(c.f), got, err, c.want)
		}
		hold(t, c.f)
	}
}

func TestP8_1Leaves(t *testing.T) {
	for n, want := range map[int64]string{0: "0", 7: "7", 10: "10", 70: "70", 99: "99", 100: "100", 1000000: "1000000", math.MaxInt64: "9223372036854775807"} {
		if got, err := show.Term(num(n)); got != want || err != api.OK {
			t.Errorf("P8.1: Term of the number %d: %q, %d", n, got, err)
		}
		holdTerm(t, num(n))
	}
	for _, s := range []string{"x", "_", "Mod", "trues", "x₁₀", "α′", "_0_0", strings.Repeat("z", 16), "ω" + strings.Repeat("₉", 15)} {
		if got, err := show.Term(name(s)); got != s || err != api.OK {
			t.Errorf("P8.1: Term of the name %q: %q, %d", s, got, err)
		}
		holdTerm(t, name(s))
		hold(t, bind(api.Ex, s, eq(name(s), num(0))))
	}
}

// Every kind of term stands as the first part and as the second one of every other.
func TestP8_1Brackets(t *testing.T) {
	x := name("x")
	for _, c := range []struct {
		x    api.Term
		want string
	}{
		{neg(x), "-x"}, {neg(num(1)), "-1"}, {neg(neg(num(1))), "--1"},
		{neg(add(x, x)), "-[x + x]"}, {neg(sub(x, x)), "-[x - x]"}, {neg(mul(x, x)), "-[x * x]"},
		{add(add(x, x), x), "x + x + x"}, {add(sub(x, x), x), "x - x + x"}, {add(mul(x, x), x), "x * x + x"}, {add(neg(x), x), "-x + x"},
		{add(x, add(x, x)), "x + [x + x]"}, {add(x, sub(x, x)), "x + [x - x]"}, {add(x, mul(x, x)), "x + x * x"}, {add(x, neg(x)), "x + -x"},
		{sub(add(x, x), x), "x + x - x"}, {sub(sub(x, x), x), "x - x - x"}, {sub(mul(x, x), x), "x * x - x"}, {sub(neg(x), x), "-x - x"},
		{sub(x, add(x, x)), "x - [x + x]"}, {sub(x, sub(x, x)), "x - [x - x]"}, {sub(x, mul(x, x)), "x - x * x"}, {sub(x, neg(x)), "x - -x"},
		{mul(add(x, x), x), "[x + x] * x"}, {mul(sub(x, x), x), "[x - x] * x"}, {mul(mul(x, x), x), "x * x * x"}, {mul(neg(x), x), "-x * x"},
		{mul(x, add(x, x)), "x * [x + x]"}, {mul(x, sub(x, x)), "x * [x - x]"}, {mul(x, mul(x, x)), "x * [x * x]"}, {mul(x, neg(x)), "x * -x"},
	} {
		if got, err := show.Term(c.x); got != c.want || err != api.OK {
			t.Errorf("P8.1: Term(%s) = %q, %d; want %q", tellTerm(c.x), got, err, c.want)
		}
		holdTerm(t, c.x)
	}
}

// terms lists all terms over the leaves that are at most so deep.
func terms(depth int, leaves ...api.Term) []api.Term {
	all := leaves
	for range depth - 1 {
		parts := all
		all = append([]api.Term(nil), leaves...)
		for _, a := range parts {
			all = append(all, neg(a))
			for _, b := range parts {
				all = append(all, add(a, b), sub(a, b), mul(a, b))
			}
		}
	}
	return all
}

// formulas does the same with formulas.
func formulas(depth int, leaves ...api.Formula) []api.Formula {
	all := leaves
	for range depth - 1 {
		parts := all
		all = append([]api.Formula(nil), leaves...)
		for _, a := range parts {
			all = append(all, of(api.Not, a), bind(api.Ex, "x", a), bind(api.All, "y", a))
			for _, b := range parts {
				all = append(all, of(api.And, a, b), of(api.Or, a, b), of(api.Implies, a, b), of(api.Iff, a, b))
			}
		}
	}
	return all
}

// Each tree has a text of its own, which is read as that tree.
func TestP8_2AllSmallTrees(t *testing.T) {
	for _, all := range [][]api.Term{terms(3, name("x"), num(7)), terms(4, num(0))} {
		seen := map[string]int{}
		for i, x := range all {
			s := holdTerm(t, x)
			if _, ok := seen[s]; ok {
				t.Fatalf("P8.2: %q is the text of two terms", s)
			}
			seen[s] = i
		}
	}
	for _, x := range terms(3, name("x")) {
		for op := api.Le; op <= api.Ne; op++ {
			hold(t, atom(op, x, neg(x)))
		}
		hold(t, cong(x, x, 10))
	}
	seen := map[string]int{}
	for i, f := range formulas(3, of(api.True), atom(api.Gt, neg(num(1)), name("x"))) {
		s := hold(t, f)
		if _, ok := seen[s]; ok {
			t.Fatalf("P8.2: %q is the text of two formulas", s)
		}
		seen[s] = i
	}
}

// chance makes trees; left is how many nodes there may still be, wordy whether all names are long.
type chance struct {
	*rand.Rand
	left  int
	wordy bool
}

func (c *chance) name() string {
	names := []string{strings.Repeat("q", 16), "ω" + strings.Repeat("₀", 15), "x", "y", "z1", "α", "Andy", "modx", "β′", "_"}
	if c.wordy {
		return names[c.IntN(2)]
	}
	return names[c.IntN(len(names))]
}

func (c *chance) number(least int64) int64 {
	numbers := []int64{0, 1, 2, 9, 10, 64, 100, 12345, math.MaxInt64 - 1, math.MaxInt64}
	return max(least, numbers[c.IntN(len(numbers))])
}

func (c *chance) term(depth int) api.Term {
	c.left--
	op := api.TermOp(c.IntN(6))
	if depth <= 1 || c.left <= 0 {
		op = api.TermOp(c.IntN(2))
	}
	switch op {
	case api.TermNumber:
		return num(c.number(0))
	case api.TermName:
		return name(c.name())
	case api.TermNeg:
		return neg(c.term(depth - 1))
	}
	return term(op, c.term(depth-1), c.term(depth-1))
}

func (c *chance) formula(depth int) api.Formula {
	c.left--
	op := api.Op(c.IntN(16))
	if c.left > 100 {
		// Else most trees end early.
		op = api.And + op%4
	}
	if depth <= 2 || c.left <= 0 {
		op = api.Le + api.Op(c.IntN(7))
	}
	if depth <= 1 {
		op = api.True + api.Op(c.IntN(2))
	}
	switch {
	case op <= api.False:
		return of(op)
	case op == api.Not:
		return of(op, c.formula(depth-1))
	case op <= api.Iff:
		return of(op, c.formula(depth-1), c.formula(depth-1))
	case op <= api.All:
		return bind(op, c.name(), c.formula(depth-1))
	case op == api.Cong:
		return cong(c.term(min(depth-1, 6)), c.term(min(depth-1, 6)), c.number(1))
	}
	return atom(op, c.term(min(depth-1, 8)), c.term(min(depth-1, 8)))
}

// spoil makes a tree that may be wrong out of a right one: a field of one of its formulas is another.
func (c *chance) spoil(f *api.Formula) {
	for len(f.Args) > 0 && c.IntN(4) > 0 {
		f = &f.Args[c.IntN(len(f.Args))]
	}
	switch c.IntN(6) {
	case 0:
		f.Op = api.Op(c.IntN(20) - 2)
	case 1:
		f.Name = []string{"", "x", "ex", "1", "x y", "\xff"}[c.IntN(6)]
	case 2:
		f.Modulus = int64(c.IntN(4) - 2)
	case 3:
		f.Terms = append(f.Terms, num(int64(c.IntN(3)-1)))
	case 4:
		f.Args = append(f.Args, of(api.True))
	case 5:
		if len(f.Terms) > 0 {
			f.Terms[0].Number = int64(c.IntN(3) - 1)
		}
	}
}

func TestP8_2ByChance(t *testing.T) {
	c := &chance{Rand: rand.New(rand.NewPCG(8, 2))}
	short, long, wrong := 0, 0, 0
	for i := range 4000 {
		c.left, c.wordy = 1+c.IntN(25<<(i%5)), i%10 == 9
		f := c.formula(1 + c.IntN(45))
		if c.IntN(4) == 0 {
			c.spoil(&f)
		}
		s := hold(t, f)
		switch {
		case tree.Check(f) != api.OK:
			wrong++
		case len(s) > api.MaxText:
			long++
		default:
			short++
		}
		c.left = 1 + c.IntN(200)
		holdTerm(t, c.term(1+c.IntN(45)))
	}
	if short < 1000 || long < 20 || wrong < 500 {
		t.Errorf("%d short texts, %d long ones, %d wrong trees: too few of one kind", short, long, wrong)
	}
}

// halves joins the formulas by And, so that the tree is as flat as can be.
func halves(all []api.Formula) api.Formula {
	if len(all) == 1 {
		return all[0]
	}
	return of(api.And, halves(all[:len(all)/2]), halves(all[len(all)/2:]))
}

// sized is a formula of 499 nodes whose text has so many bytes: 125 atoms, 124 And's, 250 names of one to 16 letters.
func sized(bytes int) api.Formula {
	left := bytes - 125*len(" = ") - 124*len("( and )")
	var names []api.Term
	for n := 250; n > 0; n-- {
		names = append(names, name(strings.Repeat("n", left/n)))
		left -= left / n
	}
	var all []api.Formula
	for i := 0; i < 250; i += 2 {
		all = append(all, eq(names[i], names[i+1]))
	}
	return halves(all)
}

// A text of more than MaxText bytes is answered, too, though it is not read.
func TestP8_2LongestText(t *testing.T) {
	for bytes := 4090; bytes <= 4102; bytes++ {
		if s := hold(t, sized(bytes)); len(s) != bytes {
			t.Errorf("P8.2: the text has %d bytes; want %d", len(s), bytes)
		}
	}
	long := name("ω" + strings.Repeat("₉", 15))
	var all []api.Formula
	for range 83 {
		all = append(all, cong(add(long, long), num(math.MaxInt64), math.MaxInt64))
	}
	if s := hold(t, halves(all)); len(s) != 82*len("( and )")+83*(2*47+2*19+len(" +  ~  mod ")) {
		t.Errorf("P8.1: the text has %d bytes", len(s))
	}
	chain, wide := long, long
	for range 39 {
		chain = mul(chain, long)
	}
	for range 7 {
		wide = sub(wide, wide)
	}
	if s := holdTerm(t, chain); len(s) != 40*47+39*len(" * ") {
		t.Errorf("P8.1: the text has %d bytes", len(s))
	}
	if s := holdTerm(t, wide); len(s) != 128*47+127*len(" - ")+63*len("[]") {
		t.Errorf("P8.1: the text has %d bytes", len(s))
	}
}

func TestP8_1Bounds(t *testing.T) {
	f, x := of(api.True), name("x")
	for depth := 1; depth <= 60; depth++ {
		if s, err := show.Formula(f); (err == api.OK) != (depth <= 40) || (s != "") != (depth <= 40) {
			t.Errorf("P8.1: Not, %d times: %q, %d", depth-1, s, err)
		}
		hold(t, f)
		holdTerm(t, x)
		f, x = of(api.Not, f), neg(x)
	}
	for size := 120; size <= 130; size++ {
		var all []api.Formula
		for range size {
			all = append(all, eq(name("x"), num(1)))
		}
		hold(t, halves(all))
		hold(t, of(api.Not, halves(all)))
	}
}

func TestP8_1WrongTrees(t *testing.T) {
	x, wide, high := name("x"), of(api.True), of(api.True)
	for range 30 {
		wide = of(api.And, wide, wide)
	}
	for range 60 {
		high = of(api.And, high, high)
	}
	wrong := api.Formula{Op: 99}
	for _, c := range []struct {
		f    api.Formula
		want api.Errno
	}{
		{wrong, api.ErrShape}, {api.Formula{Op: -1}, api.ErrShape}, {api.Formula{Op: 16}, api.ErrShape}, {api.Formula{Op: api.Not}, api.ErrShape},
		{of(api.Not, wrong), api.ErrShape}, {of(api.And, of(api.True)), api.ErrShape}, {of(api.And, of(api.True), of(api.True), of(api.True)), api.ErrShape},
		{api.Formula{Op: api.True, Name: "x"}, api.ErrShape}, {api.Formula{Op: api.Le}, api.ErrShape}, {api.Formula{Op: api.Ex, Name: "x"}, api.ErrShape},
		{bind(api.Ex, "ex", of(api.True)), api.ErrShape}, {bind(api.All, "", of(api.True)), api.ErrShape}, {bind(api.All, "x, y", of(api.True)), api.ErrShape},
		{cong(x, x, 0), api.ErrShape}, {cong(x, x, -5), api.ErrShape}, {eq(x, num(-1)), api.ErrShape}, {eq(x, name("mod")), api.ErrShape}, {eq(x, term(9)), api.ErrShape},
		{api.Formula{Op: api.Eq, Modulus: 2, Terms: []api.Term{x, x}}, api.ErrShape}, {eq(x, add(x, term(api.TermMul, x))), api.ErrShape},
		{wide, api.ErrMany}, {high, api.ErrDeep}, {of(api.And, wrong, high), api.ErrShape}, {of(api.And, high, wrong), api.ErrDeep}, {of(api.Or, wide, high), api.ErrMany},
	} {
		if s, err := show.Formula(c.f); s != "" || err != c.want {
			t.Errorf("P8.1: Formula = %.200q, %d; want %d", s, err, c.want)
		}
	}
	many, deep := x, x
	for range 30 {
		many = add(many, many)
	}
	for range 40 {
		deep = neg(deep)
	}
	for _, c := range []struct {
		x    api.Term
		want api.Errno
	}{
		{num(-1), api.ErrShape}, {num(math.MinInt64), api.ErrShape}, {name(""), api.ErrShape}, {name("true"), api.ErrShape}, {name("a b"), api.ErrShape},
		{name(strings.Repeat("a", 17)), api.ErrShape}, {term(6), api.ErrShape}, {term(-1), api.ErrShape}, {term(api.TermNeg), api.ErrShape}, {term(api.TermAdd, x), api.ErrShape},
		{term(api.TermSub, x, x, x), api.ErrShape}, {api.Term{Op: api.TermName, Name: "x", Number: 1}, api.ErrShape}, {mul(x, num(-2)), api.ErrShape},
		{many, api.ErrMany}, {deep, api.ErrDeep}, {add(num(-1), deep), api.ErrShape}, {add(deep, num(-1)), api.ErrDeep},
	} {
		if s, err := show.Term(c.x); s != "" || err != c.want {
			t.Errorf("P8.1: Term = %.200q, %d; want %d", s, err, c.want)
		}
	}
}

func TestRule4EmptyListsAreNil(t *testing.T) {
	none, parts := []api.Term{}, []api.Formula{}
	f := api.Formula{Op: api.Le, Args: parts, Terms: []api.Term{{Op: api.TermName, Name: "x", Args: none}, {Number: 3, Args: none}}}
	if s, err := show.Formula(f); s != "x <= 3" || err != api.OK {
		t.Errorf("Formula = %q, %d", s, err)
	}
	if s, err := show.Formula(api.Formula{Terms: none, Args: parts}); s != "true" || err != api.OK {
		t.Errorf("Formula = %q, %d", s, err)
	}
}

func address(s string) uintptr { return uintptr(unsafe.Pointer(unsafe.StringData(s))) }

func TestRule3NewMemory(t *testing.T) {
	long := strings.Clone("averyveryverylon")
	for _, x := range []api.Term{name(long), num(5), neg(name(long))} {
		a, _ := show.Term(x)
		b, _ := show.Term(x)
		if a != b || address(a) == address(b) || address(a) == address(long) {
			t.Errorf("texts of %s share memory, or differ: %q, %q", tellTerm(x), a, b)
		}
	}
	for _, f := range []api.Formula{of(api.True), of(api.False), bind(api.Ex, long, eq(name(long), num(1)))} {
		before := tell(f)
		a, _ := show.Formula(f)
		b, _ := show.Formula(f)
		if a != b || address(a) == address(b) || tell(f) != before {
			t.Errorf("texts of %s share memory, or differ: %q, %q", before, a, b)
		}
	}
}

func FuzzFormula(f *testing.F) {
	for _, s := range []string{"", "x <= 1 and not y = 2 or z > 0", "ex x, y. x = y <-> true", "x - y - 2 * -z ~ 1 mod 3", "[[x]] * 2 + 1 = -[x * y] * [2 - 3]", "(x = 1 -> x ~ 1 mod 0)", "∀α.¬α≥0∨α<0", "\xff"} {
		f.Add(s)
	}
	f.Fuzz(func(t *testing.T, s string) {
		if read, w := parse.Formula(s); w == (api.Fault{}) {
			hold(t, read)
		}
		if read, w := parse.Term(s); w == (api.Fault{}) {
			holdTerm(t, read)
		}
	})
}
