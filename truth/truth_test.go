package truth_test

import (
	"fmt"
	"math"
	"math/big"
	"math/rand/v2"
	"slices"
	"strings"
	"testing"

	"tabard/api"
	"tabard/glyph"
	"tabard/norm"
	"tabard/parse"
	"tabard/show"
	"tabard/tree"
	"tabard/truth"
)

func num(n int64) api.Term { return api.Term{Op: api.TermNumber, Number: n} }

func name(s string) api.Term { return api.Term{Op: api.TermName, Name: s} }

func term(op api.TermOp, args ...api.Term) api.Term { return api.Term{Op: op, Args: args} }

func neg(t api.Term) api.Term { return term(api.TermNeg, t) }

func add(a, b api.Term) api.Term { return term(api.TermAdd, a, b) }

func sub(a, b api.Term) api.Term { return term(api.TermSub, a, b) }

func mul(a, b api.Term) api.Term { return term(api.TermMul, a, b) }

func atom(op api.Op, a, b api.Term) api.Formula {
	return api.Formula{Op: op, Terms: []api.Term{a, b}}
}

func cong(a, b api.Term, modulus int64) api.Formula {
	return api.Formula{Op: api.Cong, Modulus: modulus, Terms: []api.Term{a, b}}
}

func of(op api.Op, args ...api.Formula) api.Formula { return api.Formula{Op: op, Args: args} }

func bind(op api.Op, s string, f api.Formula) api.Formula {
	return api.Formula{Op: op, Name: s, Args: []api.Formula{f}}
}

// fromBits is the constant for a bool: a formula of one node.
func fromBits(bit int) api.Formula {
	if bit == 1 {
		return of(api.True)
	}
	return of(api.False)
}

// atoms are those of all kinds over the two terms, a Cong for each modulus.
func atoms(a, b api.Term, moduli ...int64) []api.Formula {
	var all []api.Formula
	for op := api.Le; op <= api.Ne; op++ {
		all = append(all, atom(op, a, b))
	}
	for _, m := range moduli {
		all = append(all, cong(a, b, m))
	}
	return all
}

// valueOf is the value of a right term, all names of which have a value.
func valueOf(t api.Term, names []string, values []int64) *big.Int {
	var parts []*big.Int
	for _, part := range t.Args {
		parts = append(parts, valueOf(part, names, values))
	}
	switch t.Op {
	case api.TermNumber:
		return big.NewInt(t.Number)
	case api.TermName:
		return big.NewInt(values[slices.Index(names, t.Name)])
	case api.TermNeg:
		return new(big.Int).Neg(parts[0])
	case api.TermAdd:
		return new(big.Int).Add(parts[0], parts[1])
	case api.TermSub:
		return new(big.Int).Sub(parts[0], parts[1])
	}
	return new(big.Int).Mul(parts[0], parts[1])
}

func isMultiple(n *big.Int, modulus int64) bool {
	return new(big.Int).Rem(n, big.NewInt(modulus)).Sign() == 0
}

// holds tells whether a right formula without quantifiers does, row by row of P10.2.
func holds(f api.Formula, names []string, values []int64) bool {
	var parts []bool
	for _, part := range f.Args {
		parts = append(parts, holds(part, names, values))
	}
	var terms []*big.Int
	for _, t := range f.Terms {
		terms = append(terms, valueOf(t, names, values))
	}
	switch f.Op {
	case api.True:
		return true
	case api.False:
		return false
	case api.Not:
		return !parts[0]
	case api.And:
		return parts[0] && parts[1]
	case api.Or:
		return parts[0] || parts[1]
	case api.Implies:
		return !parts[0] || parts[1]
	case api.Iff:
		return parts[0] && parts[1] || !parts[0] && !parts[1]
	case api.Le:
		return terms[0].Cmp(terms[1]) <= 0
	case api.Lt:
		return terms[0].Cmp(terms[1]) < 0
	case api.Ge:
		return terms[0].Cmp(terms[1]) >= 0
	case api.Gt:
		return terms[0].Cmp(terms[1]) > 0
	case api.Eq:
		return terms[0].Cmp(terms[1]) == 0
	case api.Ne:
		return terms[0].Cmp(terms[1]) != 0
	}
	return isMultiple(new(big.Int).Sub(terms[0], terms[1]), f.Modulus)
}

// lacks tells whether one of the wanted names is not among the names.
func lacks(wanted, names []string) bool {
	return slices.ContainsFunc(wanted, func(s string) bool { return !slices.Contains(names, s) })
}

// referenceTerm is P10.1 in its own words.
func referenceTerm(t api.Term, names []string, values []int64) (string, api.Errno) {
	if err := tree.CheckTerm(t); err != api.OK {
		return "", err
	}
	if !glyph.Rises(names) || len(names) != len(values) {
		return "", api.ErrShape
	}
	if wanted, _ := tree.Names(t); lacks(wanted, names) {
		return "", api.ErrNone
	}
	return valueOf(t, names, values).String(), api.OK
}

// referenceFormula is P10.2 in its own words.
func referenceFormula(f api.Formula, names []string, values []int64) (bool, api.Errno) {
	if err := tree.Check(f); err != api.OK {
		return false, err
	}
	if plain, _ := tree.Plain(f); !plain {
		return false, api.ErrKind
	}
	if !glyph.Rises(names) || len(names) != len(values) {
		return false, api.ErrShape
	}
	if wanted, _ := tree.Free(f); lacks(wanted, names) {
		return false, api.ErrNone
	}
	return holds(f, names, values), api.OK
}

// referenceNormal is P10.3 in its own words.
func referenceNormal(n api.Normal, values []int64) (bool, api.Errno) {
	if norm.Check(n) != api.OK || len(values) != len(n.Names) {
		return false, api.ErrShape
	}
	sum := new(big.Int)
	for i, coef := range n.Coefs {
		sum.Add(sum, new(big.Int).Mul(big.NewInt(coef), big.NewInt(values[i])))
	}
	bound := big.NewInt(n.Bound)
	switch n.Kind {
	case api.NormalLe:
		return sum.Cmp(bound) <= 0, api.OK
	case api.NormalEq:
		return sum.Cmp(bound) == 0, api.OK
	}
	return isMultiple(sum.Sub(sum, bound), n.Modulus), api.OK
}

func holdTerm(t *testing.T, x api.Term, names []string, values []int64) api.Errno {
	t.Helper()
	want, wantErr := referenceTerm(x, names, values)
	got, err := truth.Term(x, names, values)
	if got != want || err != wantErr {
		text, _ := show.Term(x)
		t.Fatalf("P10.1: Term(%.500s, %.500q, %.500v) = %q, error %d; want %q, error %d", text, names, values, got, err, want, wantErr)
	}
	return err
}

// outcome is what a call about a formula answered.
type outcome struct {
	holds bool
	err   api.Errno
}

func holdFormula(t *testing.T, f api.Formula, names []string, values []int64) outcome {
	t.Helper()
	var got, want outcome
	want.holds, want.err = referenceFormula(f, names, values)
	got.holds, got.err = truth.Formula(f, names, values)
	if got != want {
		text, _ := show.Formula(f)
		t.Fatalf("P10.2: Formula(%.500s, %.500q, %.500v) = %v; want %v", text, names, values, got, want)
	}
	return got
}

func holdNormal(t *testing.T, n api.Normal, values []int64) outcome {
	t.Helper()
	var got, want outcome
	want.holds, want.err = referenceNormal(n, values)
	got.holds, got.err = truth.Normal(n, values)
	if got != want {
		t.Fatalf("P10.3: Normal(%.500v, %.500v) = %v; want %v", n, values, got, want)
	}
	return got
}

func TestP10_1Examples(t *testing.T) {
	x := []string{"x"}
	xy := []string{"x", "y"}
	for _, c := range []struct {
		text   string
		names  []string
		values []int64
		want   string
		err    api.Errno
	}{
		{"x * x - 1", x, []int64{1 << 62}, "21267647932558653966460912964485513215", api.OK},
		{"-x", x, []int64{math.MinInt64}, "9223372036854775808", api.OK},
		{"x", x, []int64{math.MinInt64}, "-9223372036854775808", api.OK},
		{"x", xy, []int64{7, 8}, "7", api.OK}, {"y", xy, []int64{7, 8}, "8", api.OK},
		{"5", nil, nil, "5", api.OK}, {"0", x, []int64{1}, "0", api.OK}, {"-0", nil, nil, "0", api.OK}, {"-[-0]", nil, nil, "0", api.OK},
		{"x - x", x, []int64{math.MinInt64}, "0", api.OK}, {"-[x - x]", x, []int64{5}, "0", api.OK}, {"-3 * [x + 3]", x, []int64{-3}, "0", api.OK},
		{"x - y", xy, []int64{3, 10}, "-7", api.OK}, {"y - x", xy, []int64{3, 10}, "7", api.OK},
		{"x - y - 2", xy, []int64{3, 10}, "-9", api.OK}, {"x - [y - 2]", xy, []int64{3, 10}, "-5", api.OK},
		{"x * -y", xy, []int64{3, 10}, "-30", api.OK}, {"-x * -y", xy, []int64{3, 10}, "30", api.OK},
		{"x + x", x, []int64{math.MaxInt64}, "18446744073709551614", api.OK}, {"x + x", x, []int64{math.MinInt64}, "-18446744073709551616", api.OK},
		{"x + x + 1 + 1 - 1 - 1", x, []int64{math.MaxInt64}, "18446744073709551614", api.OK},
		{"x * x", x, []int64{math.MinInt64}, "85070591730234615865843651857942052864", api.OK},
		// Noughts in the midst, where the digits are told in pieces.
		{"x * 10", x, []int64{1e18}, "10000000000000000000", api.OK}, {"x * 10 - 1", x, []int64{1e18}, "9999999999999999999", api.OK},
		{"x * x * 100 + 1", x, []int64{1e18}, "100000000000000000000000000000000000001", api.OK}, {"-x * x * 1000 + 7", x, []int64{1e18}, "-999999999999999999999999999999999999993", api.OK},
		{"y", x, []int64{0}, "", api.ErrNone}, {"y", nil, nil, "", api.ErrNone}, {"0 * y", x, []int64{0}, "", api.ErrNone}, {"x + y", []string{"y"}, []int64{0}, "", api.ErrNone},
		{"-y", x, []int64{0}, "", api.ErrNone}, {"y * x", x, []int64{0}, "", api.ErrNone}, {"X", x, []int64{0}, "", api.ErrNone},
		{"x", []string{"y", "x"}, []int64{0, 0}, "", api.ErrShape}, {"x", []string{"x", "x"}, []int64{0, 0}, "", api.ErrShape},
		{"x", []string{"1", "x"}, []int64{0, 0}, "", api.ErrShape}, {"x", []string{"mod", "x"}, []int64{0, 0}, "", api.ErrShape}, {"x", []string{"", "x"}, []int64{0, 0}, "", api.ErrShape},
		{"x", x, nil, "", api.ErrShape}, {"x", x, []int64{1, 2}, "", api.ErrShape}, {"1", nil, []int64{1}, "", api.ErrShape},
		// A list that does not rise comes ahead of a name that is not in it.
		{"z", []string{"y", "x"}, []int64{0, 0}, "", api.ErrShape}, {"z", x, nil, "", api.ErrShape},
	} {
		read, w := parse.Term(c.text)
		got, err := truth.Term(read, c.names, c.values)
		if w.Why != api.OK || got != c.want || err != c.err {
			t.Errorf("P10.1: %q of %q, %d: %q, error %d; want %q, error %d", c.text, c.names, c.values, got, err, c.want, c.err)
		}
		holdTerm(t, read, c.names, c.values)
	}
}

func TestP10_2Examples(t *testing.T) {
	x := []string{"x"}
	for _, c := range []struct {
		text  string
		names []string
		value int64
		want  bool
		err   api.Errno
	}{
		{"x + 1 > x", x, math.MaxInt64, true, api.OK}, {"x - 1 < x", x, math.MinInt64, true, api.OK}, {"-x > x", x, math.MinInt64, true, api.OK}, {"-x = x", x, math.MinInt64, false, api.OK},
		{"x * x ~ 1 mod 8", x, -3, true, api.OK}, {"x ~ 1 mod 8", x, -3, false, api.OK}, {"x ~ 5 mod 8", x, -3, true, api.OK}, {"5 ~ x mod 8", x, -3, true, api.OK},
		{"x ~ 0 mod 1", x, -3, true, api.OK}, {"x ~ x mod 9223372036854775807", x, -3, true, api.OK}, {"x ~ 1 mod 9223372036854775807", x, math.MinInt64, false, api.OK}, {"x ~ -1 mod 9223372036854775807", x, math.MinInt64, true, api.OK},
		{"x * x * x ~ 0 mod 4611686018427387904", x, math.MinInt64, true, api.OK}, {"x * x * x ~ 1 mod 4611686018427387904", x, math.MinInt64, false, api.OK},
		{"x = y", x, 1, false, api.ErrNone}, {"y = x", x, 1, false, api.ErrNone}, {"y != y", x, 1, false, api.ErrNone}, {"y <= 1", x, 1, false, api.ErrNone}, {"x ~ y mod 2", x, 1, false, api.ErrNone}, {"y ~ x mod 1", x, 1, false, api.ErrNone},
		// All names are asked for, also those on which nothing hangs.
		{"true or y = 1", x, 1, false, api.ErrNone}, {"y = 1 or true", x, 1, false, api.ErrNone}, {"false and y = 1", x, 1, false, api.ErrNone}, {"false -> y = 1", x, 1, false, api.ErrNone},
		{"y = 1 -> true", x, 1, false, api.ErrNone}, {"false <-> not y > 0 * y", x, 1, false, api.ErrNone}, {"y = y <-> y = y", x, 1, false, api.ErrNone}, {"not 0 * y = 0", x, 1, false, api.ErrNone},
		{"ex x. x = 1", x, 1, false, api.ErrKind}, {"all x. true", x, 1, false, api.ErrKind}, {"true or ex y. x = y", x, 1, false, api.ErrKind}, {"not (x = 1 -> all y. y = z)", x, 1, false, api.ErrKind}, {"y = 1 and ex z. true", x, 1, false, api.ErrKind},
		// A quantifier comes ahead of a list that does not rise, this one ahead of a name that is not in it.
		{"ex x. x = 1", []string{"and"}, 1, false, api.ErrKind}, {"x = 1", []string{"and"}, 1, false, api.ErrShape}, {"y = 1", []string{"and"}, 1, false, api.ErrShape}, {"true", []string{"1"}, 1, false, api.ErrShape},
		{"true", nil, 1, false, api.ErrShape}, {"x = 1", []string{"x", "y"}, 1, false, api.ErrShape},
		{"x = 3 or x = -3", x, -3, true, api.OK}, {"x = 3 or x = -3", x, 3, true, api.OK}, {"x = 3 or x = -3", x, 2, false, api.OK},
		{"x = 2 * 3 <-> not x != 6", x, 6, true, api.OK}, {"x = 2 * 3 <-> not x != 6", x, 7, true, api.OK}, {"x > 0 <-> x > 1", x, 1, false, api.OK},
		{"true", x, 1, true, api.OK}, {"false", x, 1, false, api.OK}, {"not false", x, 1, true, api.OK}, {"0 = 0", x, 1, true, api.OK}, {"-0 = 0", x, 1, true, api.OK}, {"-[x - x] >= 0", x, 1, true, api.OK},
	} {
		f, w := parse.Formula(c.text)
		got, err := truth.Formula(f, c.names, []int64{c.value})
		if w.Why != api.OK || got != c.want || err != c.err {
			t.Errorf("P10.2: %q of %q, %d: %v, error %d; want %v, error %d", c.text, c.names, c.value, got, err, c.want, c.err)
		}
		holdFormula(t, f, c.names, []int64{c.value})
	}
	g, _ := parse.Formula("x = y")
	if is, err := truth.Formula(g, []string{"y", "x"}, []int64{1, 1}); is || err != api.ErrShape {
		t.Errorf("P10.2: names y, x: %v, %d", is, err)
	}
	if is, err := truth.Formula(of(api.True), nil, nil); !is || err != api.OK {
		t.Errorf("P10.2: true: %v, %d", is, err)
	}
}

func TestP10_2TruthTables(t *testing.T) {
	// The columns are those of the parts 00, 01, 10, 11.
	want := map[api.Op]string{api.And: "0001", api.Or: "0111", api.Implies: "1101", api.Iff: "1001"}
	for op, row := range want {
		for parts := range 4 {
			f := of(op, fromBits(parts>>1), fromBits(parts&1))
			got, err := truth.Formula(f, nil, nil)
			if got != (row[parts] == '1') || err != api.OK {
				t.Errorf("P10.2: Op %d of %02b: %v, %d", op, parts, got, err)
			}
		}
	}
	for bit := range 2 {
		if got, err := truth.Formula(of(api.Not, fromBits(bit)), nil, nil); got != (bit == 0) || err != api.OK {
			t.Errorf("P10.2: not %d: %v, %d", bit, got, err)
		}
	}
}

// edges are numbers about which signs, and digits of 64 bits, change.
func edges() []int64 {
	return []int64{math.MinInt64, math.MinInt64 + 1, -1 << 62, -1 << 32, -3, -2, -1, 0, 1, 2, 3, 1<<32 - 1, 1 << 32, 1 << 62, math.MaxInt64 - 1, math.MaxInt64}
}

func TestP10_2AllAtomsAtTheEdges(t *testing.T) {
	names := []string{"x", "y"}
	x, y := name("x"), name("y")
	pairs := [][2]api.Term{{x, y}, {neg(x), y}, {mul(x, y), y}, {mul(x, x), mul(y, y)}, {add(x, y), sub(x, y)}, {mul(x, mul(x, y)), mul(y, mul(y, x))}, {sub(mul(x, x), num(1)), neg(y)}}
	for _, a := range edges() {
		for _, b := range edges() {
			for _, pair := range pairs {
				holdTerm(t, pair[0], names, []int64{a, b})
				holdTerm(t, pair[1], names, []int64{a, b})
				for _, f := range atoms(pair[0], pair[1], 1, 2, 3, 7, 1<<32-1, 1<<32, 1<<62, math.MaxInt64-1, math.MaxInt64) {
					holdFormula(t, f, names, []int64{a, b})
				}
			}
		}
	}
}

func TestP10_2SmallCongs(t *testing.T) {
	x := []string{"x"}
	for modulus := int64(1); modulus <= 12; modulus++ {
		for a := int64(-25); a <= 25; a++ {
			for b := int64(0); b <= 13; b++ {
				want := (a-b)%modulus == 0
				for _, f := range []api.Formula{cong(name("x"), num(b), modulus), cong(num(b), name("x"), modulus)} {
					if got, err := truth.Formula(f, x, []int64{a}); got != want || err != api.OK {
						t.Fatalf("P10.2: %d and %d modulo %d: %v, %d", a, b, modulus, got, err)
					}
				}
			}
		}
	}
}

// wide is a flat term of that many nodes, which is to be odd.
func wide(size int, join func(a, b api.Term) api.Term, leaf func(i int) api.Term) api.Term {
	leaves := make([]api.Term, (size+1)/2)
	for i := range leaves {
		leaves[i] = leaf(i)
	}
	for len(leaves) > 1 {
		a, b := leaves[0], leaves[1]
		leaves = append(leaves[2:], join(a, b))
	}
	return leaves[0]
}

func TestP10_1GreatProducts(t *testing.T) {
	chance := rand.New(rand.NewPCG(10, 1))
	names := []string{"x", "y", "z"}
	for size := 1; size <= 499; size += 2 {
		for _, values := range [][]int64{
			{math.MinInt64, math.MinInt64, math.MinInt64}, {math.MaxInt64, math.MinInt64, -1}, {1e18, 10, -1e18}, {1 << 32, -1 << 32, 1 << 62},
			{chance.Int64() - chance.Int64(), chance.Int64() - chance.Int64(), chance.Int64() >> chance.IntN(63)},
		} {
			x := wide(size, mul, func(i int) api.Term { return name(names[i*7%3]) })
			if err := holdTerm(t, x, names, values); err != api.OK {
				t.Fatalf("P10.1: a product of %d nodes: %d", size, err)
			}
		}
	}
	product := wide(247, mul, func(int) api.Term { return name("x") })
	// Of two great products that are the same but for 1, the lowest digit decides; and a carry or borrow goes through all digits.
	for _, v := range edges() {
		for _, other := range []api.Term{product, add(product, num(1)), sub(product, num(1)), neg(product)} {
			holdTerm(t, add(product, other), []string{"x"}, []int64{v})
			holdTerm(t, sub(product, other), []string{"x"}, []int64{v})
			for _, f := range atoms(product, other, 1, 2, 97, math.MaxInt64) {
				holdFormula(t, f, []string{"x"}, []int64{v})
				f.Terms[0], f.Terms[1] = f.Terms[1], f.Terms[0]
				holdFormula(t, f, []string{"x"}, []int64{v})
			}
		}
	}
}

func TestP10_1PowersOfTen(t *testing.T) {
	power, digits := name("x"), "10"
	for len(digits) < 39 {
		nines := strings.Repeat("9", len(digits)-1)
		three := digits[:len(digits)-1] + "3"
		for _, c := range []struct {
			t    api.Term
			want string
		}{
			{power, digits}, {neg(power), "-" + digits}, {sub(power, num(1)), nines}, {sub(num(1), power), "-" + nines},
			{add(power, num(3)), three}, {sub(neg(num(3)), power), "-" + three}, {sub(power, power), "0"}, {mul(num(0), neg(power)), "0"},
		} {
			if got, err := truth.Term(c.t, []string{"x"}, []int64{10}); got != c.want || err != api.OK {
				t.Fatalf("P10.1: %q, %d; want %q", got, err, c.want)
			}
		}
		power, digits = mul(power, name("x")), digits+"0"
	}
}

// chance makes trees by chance.
type chance struct{ *rand.Rand }

func someNames() []string {
	return []string{"X", "_", "sixteencharacter", "x", "y", "z", "α₁"}
}

func (c chance) name() string { return someNames()[c.IntN(7)] }

func (c chance) number() int64 {
	switch c.IntN(8) {
	case 0:
		return math.MaxInt64 - c.Int64N(3)
	case 1:
		return c.Int64() >> c.IntN(63)
	}
	return c.Int64N(20)
}

func (c chance) value() int64 {
	switch c.IntN(6) {
	case 0:
		return edges()[c.IntN(len(edges()))]
	case 1:
		return int64(c.Uint64()) >> c.IntN(63)
	}
	return c.Int64N(7) - 3
}

func (c chance) term(depth int) api.Term {
	if depth == 1 || c.IntN(6) == 0 {
		if c.IntN(2) == 0 {
			return num(c.number())
		}
		return name(c.name())
	}
	switch c.IntN(4) {
	case 0:
		return neg(c.term(depth - 1))
	case 1:
		return sub(c.term(depth-1), c.term(depth-1))
	case 2:
		return mul(c.term(depth-1), c.term(depth-1))
	}
	return add(c.term(depth-1), c.term(depth-1))
}

func (c chance) atom() api.Formula {
	f := atom(api.Le+api.Op(c.IntN(7)), c.term(1+c.IntN(4)), c.term(1+c.IntN(3)))
	if c.IntN(3) == 0 {
		f.Terms[1] = f.Terms[0]
	}
	if f.Op == api.Cong {
		f.Modulus = 1 + c.number()%math.MaxInt64
	}
	return f
}

func (c chance) formula(depth int) api.Formula {
	if depth == 1 || c.IntN(5) == 0 {
		if c.IntN(6) == 0 {
			return fromBits(c.IntN(2))
		}
		return c.atom()
	}
	if c.IntN(4) == 0 {
		return of(api.Not, c.formula(depth-1))
	}
	return of(api.And+api.Op(c.IntN(4)), c.formula(depth-1), c.formula(depth-1))
}

// spoilTerm makes one of the tree's fields another one, mostly a wrong one.
func (c chance) spoilTerm(t *api.Term) {
	for len(t.Args) > 0 && c.IntN(3) > 0 {
		t = &t.Args[c.IntN(len(t.Args))]
	}
	switch c.IntN(4) {
	case 0:
		t.Op = api.TermOp(c.IntN(9) - 1)
	case 1:
		t.Name = []string{"", "and", "x", "1", "x y", "x\xff"}[c.IntN(6)]
	case 2:
		t.Number = c.Int64() - c.Int64()
	default:
		t.Args = append(t.Args, num(1))
	}
}

// spoil does so to a formula, or puts a quantifier into it.
func (c chance) spoil(f *api.Formula) {
	for len(f.Args) > 0 && c.IntN(3) > 0 {
		f = &f.Args[c.IntN(len(f.Args))]
	}
	if len(f.Terms) > 0 && c.IntN(2) == 0 {
		c.spoilTerm(&f.Terms[c.IntN(len(f.Terms))])
		return
	}
	switch c.IntN(5) {
	case 0:
		f.Op = api.Op(c.IntN(20) - 2)
	case 1:
		f.Modulus = c.Int64N(3) - 1
	case 2:
		f.Args = append(f.Args, of(api.True))
	default:
		*f = bind(api.Ex+api.Op(c.IntN(2)), c.name(), *f)
	}
}

// lists are names and values, mostly those of all names that the trees have.
func (c chance) lists() (names []string, values []int64) {
	names = someNames()
	if c.IntN(4) == 0 {
		i := c.IntN(len(names))
		switch c.IntN(4) {
		case 0:
			names = slices.Delete(names, i, i+1)
		case 1:
			names[i] = []string{"", "or", "x", "2", "α", "zz", "\xff"}[c.IntN(7)]
		case 2:
			j := c.IntN(len(names))
			names[i], names[j] = names[j], names[i]
		default:
			names = slices.Insert(names, i, names[i])
		}
	}
	values = make([]int64, len(names))
	for i := range values {
		values[i] = c.value()
	}
	if c.IntN(20) == 0 {
		values = values[1:]
	} else if c.IntN(20) == 0 {
		values = append(values, 1)
	}
	return names, values
}

func TestP10_1ByChance(t *testing.T) {
	c := chance{rand.New(rand.NewPCG(10, 11))}
	seen := map[api.Errno]int{}
	for i := range 40000 {
		x := c.term(1 + c.IntN(8))
		if i%5 == 0 {
			c.spoilTerm(&x)
		}
		names, values := c.lists()
		seen[holdTerm(t, x, names, values)]++
	}
	if seen[api.OK] < 10000 || seen[api.ErrShape] < 1000 || seen[api.ErrNone] < 500 {
		t.Errorf("the answers: %v", seen)
	}
}

func TestP10_2ByChance(t *testing.T) {
	c := chance{rand.New(rand.NewPCG(10, 22))}
	seen := map[outcome]int{}
	for i := range 40000 {
		f := c.formula(1 + c.IntN(7))
		if i%5 == 0 {
			c.spoil(&f)
		}
		names, values := c.lists()
		seen[holdFormula(t, f, names, values)]++
	}
	for _, o := range []outcome{{true, api.OK}, {false, api.OK}, {false, api.ErrShape}, {false, api.ErrKind}, {false, api.ErrNone}} {
		if seen[o] < 500 {
			t.Errorf("the answers: %v", seen)
		}
	}
}

func TestP10_2HoldsOfWholeTables(t *testing.T) {
	// Atoms on small numbers, joined to deep formulas, hold of about half of all values.
	c := chance{rand.New(rand.NewPCG(10, 2))}
	names := []string{"x", "y"}
	for range 300 {
		f := atom(api.Lt, name("x"), name("y"))
		for range 3 + c.IntN(20) {
			g := atom(api.Le+api.Op(c.IntN(6)), add(name("x"), num(c.Int64N(3))), mul(num(c.Int64N(4)), name("y")))
			if c.IntN(2) == 0 {
				f, g = g, f
			}
			f = of(api.And+api.Op(c.IntN(4)), f, g)
			if c.IntN(3) == 0 {
				f = of(api.Not, f)
			}
			if tree.Check(f) != api.OK {
				f = f.Args[0]
				break
			}
		}
		for a := int64(-3); a <= 3; a++ {
			for b := int64(-3); b <= 3; b++ {
				holdFormula(t, f, names, []int64{a, b})
			}
		}
	}
}

func TestP10Bounds(t *testing.T) {
	x := []string{"x"}
	leaf := func(int) api.Term { return name("x") }
	for size := 489; size <= 509; size += 2 {
		wideTerm := wide(size, sub, leaf)
		if err := holdTerm(t, wideTerm, x, []int64{math.MinInt64}); (err == api.OK) != (size <= 500) {
			t.Errorf("P10.1: a term of %d nodes: %d", size, err)
		}
		if o := holdFormula(t, atom(api.Eq, wideTerm, num(0)), x, []int64{3}); (o.err == api.OK) != (size+2 <= 500) {
			t.Errorf("P10.2: a formula of %d nodes: %d", size+2, o.err)
		}
	}
	// Chains to the left and to the right, so that the stack grows in each way.
	for _, grow := range []func(t api.Term) api.Term{
		neg, func(t api.Term) api.Term { return sub(t, name("x")) }, func(t api.Term) api.Term { return sub(name("x"), t) }, func(t api.Term) api.Term { return mul(name("x"), t) },
	} {
		chain := name("x")
		for depth := 1; depth <= 60; depth++ {
			if err := holdTerm(t, chain, x, []int64{-7}); (err == api.OK) != (depth <= 40) {
				t.Errorf("P10.1: a term of depth %d: %d", depth, err)
			}
			chain = grow(chain)
		}
	}
	holding := atom(api.Eq, name("x"), num(7))
	for _, grow := range []func(f api.Formula) api.Formula{
		func(f api.Formula) api.Formula { return of(api.Not, f) }, func(f api.Formula) api.Formula { return of(api.Implies, f, holding) }, func(f api.Formula) api.Formula { return of(api.Iff, of(api.False), f) },
	} {
		chain := holding
		for depth := 2; depth <= 60; depth++ {
			for v := int64(7); v <= 8; v++ {
				if o := holdFormula(t, chain, x, []int64{v}); (o.err == api.OK) != (depth <= 40) {
					t.Errorf("P10.2: a formula of depth %d: %d", depth, o.err)
				}
			}
			chain = grow(chain)
		}
	}
}

func TestP10WrongTrees(t *testing.T) {
	many, deep := name("x"), name("x")
	for range 30 {
		many = add(many, many)
	}
	for range 60 {
		deep = neg(deep)
	}
	// A list that holds itself is a tree without end.
	list := make([]api.Term, 1)
	list[0] = term(api.TermNeg)
	list[0].Args = list
	parts := make([]api.Formula, 1)
	parts[0] = of(api.Not)
	parts[0].Args = parts
	twins := make([]api.Formula, 2)
	twins[0], twins[1] = of(api.True), of(api.And)
	twins[1].Args = twins
	// What is wrong with a tree comes ahead of a quantifier, of lists that do not rise, and of names that are not there.
	lists := [][]string{{"x"}, {"y"}, {"y", "x"}, {"and"}, nil}
	for _, c := range []struct {
		x    api.Term
		want api.Errno
	}{
		{num(-1), api.ErrShape}, {num(math.MinInt64), api.ErrShape}, {name(""), api.ErrShape}, {name("mod"), api.ErrShape}, {name("x\xff"), api.ErrShape},
		{term(6, num(1), num(1)), api.ErrShape}, {term(-1), api.ErrShape}, {term(api.TermNeg), api.ErrShape}, {term(api.TermMul, num(1)), api.ErrShape}, {term(api.TermAdd, num(1), num(1), num(1)), api.ErrShape},
		{term(api.TermNumber, num(1)), api.ErrShape}, {api.Term{Op: api.TermName, Name: "x", Number: 1}, api.ErrShape}, {many, api.ErrMany}, {deep, api.ErrDeep}, {list[0], api.ErrDeep}, {add(name("q"), deep), api.ErrDeep},
	} {
		for _, names := range lists {
			if got, err := truth.Term(c.x, names, []int64{1}); got != "" || err != c.want {
				t.Errorf("P10.1: Term = %q, error %d; want error %d", got, err, c.want)
			}
			for _, f := range []api.Formula{atom(api.Eq, c.x, num(1)), cong(num(1), c.x, 2), of(api.Or, of(api.True), bind(api.Ex, "x", atom(api.Ne, num(1), c.x)))} {
				if got, err := truth.Formula(f, names, []int64{1}); got || err != c.want {
					t.Errorf("P10.2: Formula = %v, error %d; want error %d", got, err, c.want)
				}
			}
		}
	}
	x := name("x")
	for _, c := range []struct {
		f    api.Formula
		want api.Errno
	}{
		{of(16), api.ErrShape}, {of(-1), api.ErrShape}, {of(99), api.ErrShape}, {of(api.Not), api.ErrShape}, {of(api.And, of(api.True)), api.ErrShape}, {of(api.Iff, of(api.True), of(api.True), of(api.True)), api.ErrShape},
		{cong(x, x, 0), api.ErrShape}, {cong(x, x, -1), api.ErrShape}, {cong(x, x, math.MinInt64), api.ErrShape}, {api.Formula{Op: api.Eq, Modulus: 2, Terms: []api.Term{x, x}}, api.ErrShape}, {api.Formula{Op: api.Le, Terms: []api.Term{x}}, api.ErrShape},
		{api.Formula{Op: api.True, Name: "x"}, api.ErrShape}, {bind(api.Ex, "and", of(api.True)), api.ErrShape}, {bind(api.All, "", of(api.True)), api.ErrShape}, {of(api.Ex, of(api.True)), api.ErrShape}, {parts[0], api.ErrDeep}, {twins[1], api.ErrDeep},
	} {
		for _, names := range lists {
			if got, err := truth.Formula(c.f, names, []int64{1}); got || err != c.want {
				t.Errorf("P10.2: Formula of the Op %d = %v, error %d; want error %d", c.f.Op, got, err, c.want)
			}
		}
	}
}

func TestP10_3Examples(t *testing.T) {
	x, xy := []string{"x"}, []string{"x", "y"}
	for _, c := range []struct {
		n      api.Normal
		values []int64
		want   bool
		err    api.Errno
	}{
		{api.Normal{Names: x, Coefs: []int64{2}, Bound: 5}, []int64{2}, true, api.OK}, {api.Normal{Names: x, Coefs: []int64{2}, Bound: 5}, []int64{3}, false, api.OK},
		{api.Normal{Names: x, Coefs: []int64{2}, Bound: 6}, []int64{3}, true, api.OK}, {api.Normal{Names: x, Coefs: []int64{-2}, Bound: -5}, []int64{2}, false, api.OK},
		{api.Normal{}, nil, true, api.OK}, {api.Normal{Bound: -1}, nil, false, api.OK}, {api.Normal{Kind: api.NormalEq}, nil, true, api.OK}, {api.Normal{Kind: api.NormalEq, Bound: 1}, nil, false, api.OK},
		{api.Normal{Kind: api.NormalCong, Modulus: 1}, nil, true, api.OK}, {api.Normal{Kind: api.NormalCong, Bound: 1, Modulus: 2}, nil, false, api.OK},
		{api.Normal{Kind: api.NormalEq, Names: xy, Coefs: []int64{1, -1}, Bound: 0}, []int64{math.MinInt64, math.MinInt64}, true, api.OK}, {api.Normal{Kind: api.NormalEq, Names: xy, Coefs: []int64{2, 0}, Bound: 0}, []int64{math.MinInt64, 1}, false, api.OK},
		{api.Normal{Names: x, Coefs: []int64{math.MaxInt64}}, []int64{math.MinInt64}, true, api.OK}, {api.Normal{Names: x, Coefs: []int64{-math.MaxInt64}}, []int64{math.MinInt64}, false, api.OK}, {api.Normal{Names: x, Coefs: []int64{math.MaxInt64}}, []int64{math.MaxInt64}, false, api.OK},
		{api.Normal{Kind: api.NormalCong, Names: x, Coefs: []int64{3}, Bound: 1, Modulus: 5}, []int64{-3}, true, api.OK}, {api.Normal{Kind: api.NormalCong, Names: x, Coefs: []int64{3}, Bound: 1, Modulus: 5}, []int64{3}, false, api.OK},
		{api.Normal{Kind: api.NormalCong, Names: xy, Coefs: []int64{1, 2}, Bound: 1, Modulus: 3}, []int64{math.MinInt64, math.MaxInt64}, false, api.OK},
		{api.Normal{Names: x, Coefs: []int64{2}, Bound: 5}, nil, false, api.ErrShape}, {api.Normal{Names: x, Coefs: []int64{2}, Bound: 5}, []int64{2, 2}, false, api.ErrShape}, {api.Normal{}, []int64{2}, false, api.ErrShape},
		{api.Normal{Names: x}, []int64{2}, false, api.ErrShape}, {api.Normal{Coefs: []int64{1}}, nil, false, api.ErrShape}, {api.Normal{Coefs: []int64{1}}, []int64{1}, false, api.ErrShape}, {api.Normal{Kind: 3}, nil, false, api.ErrShape}, {api.Normal{Kind: -1}, nil, false, api.ErrShape},
		{api.Normal{Kind: api.NormalCong}, nil, false, api.ErrShape}, {api.Normal{Modulus: 1}, nil, false, api.ErrShape}, {api.Normal{Bound: math.MinInt64}, nil, false, api.ErrShape}, {api.Normal{Bound: math.MaxInt64}, nil, true, api.OK}, {api.Normal{Bound: -math.MaxInt64}, nil, false, api.OK},
		{api.Normal{Names: []string{"y", "x"}, Coefs: []int64{1, 1}, Bound: 9}, []int64{1, 1}, false, api.ErrShape}, {api.Normal{Names: []string{"x", "x"}, Coefs: []int64{1, 1}, Bound: 9}, []int64{1, 1}, false, api.ErrShape}, {api.Normal{Names: []string{"mod"}, Coefs: []int64{1}, Bound: 9}, []int64{1}, false, api.ErrShape},
	} {
		if got, err := truth.Normal(c.n, c.values); got != c.want || err != c.err {
			t.Errorf("P10.3: Normal(%+v, %d) = %v, error %d; want %v, error %d", c.n, c.values, got, err, c.want, c.err)
		}
		holdNormal(t, c.n, c.values)
	}
}

func TestP10_3EveryField(t *testing.T) {
	names := [][]string{nil, {}, {"x"}, {"x", "y"}, {"y", "x"}, {"x", "x"}, {"", "x"}, {"and"}, {"Z", "a"}, {"x", "α"}, {strings.Repeat("a", 16)}, {strings.Repeat("a", 17)}, {"x", "x1", "x2"}}
	numbers := []int64{math.MinInt64, -math.MaxInt64, -2, -1, 0, 1, 2, 3, 1 << 62, math.MaxInt64 - 2, math.MaxInt64 - 1, math.MaxInt64}
	coefs := [][]int64{nil, {}, {0, 0, 0}, {1, 1, 1}, {2, 2, -2}}
	for _, a := range numbers {
		coefs = append(coefs, []int64{a})
		for _, b := range numbers {
			coefs = append(coefs, []int64{a, b})
		}
	}
	moduli := []int64{math.MinInt64, -1, 0, 1, 2, 3, math.MaxInt64 - 1, math.MaxInt64}
	values := [][]int64{nil, {2}, {3, -4}, {math.MinInt64, math.MaxInt64}, {1, -2, 3}}
	seen := map[outcome]int{}
	for kind := api.NormalKind(-1); kind <= 4; kind++ {
		for _, list := range names {
			for _, c := range coefs {
				for _, bound := range numbers {
					for _, m := range moduli {
						n := api.Normal{Kind: kind, Names: list, Coefs: c, Bound: bound, Modulus: m}
						seen[holdNormal(t, n, values[min(len(list), 2)+len(list)/3*2])]++
						seen[holdNormal(t, n, values[(len(c)+int(kind)+5)%5])]++
					}
				}
			}
		}
	}
	if len(seen) != 3 || seen[outcome{true, api.OK}] < 500 || seen[outcome{false, api.OK}] < 500 {
		t.Errorf("P10.3: the answers: %v", seen)
	}
}

// TestP10_3TheSum: coefficients and bounds whose absolute values' sum lies close to 2^63, which is not to be looked at by a sum that comes round.
func TestP10_3TheSum(t *testing.T) {
	chance := rand.New(rand.NewPCG(10, 3))
	seen := map[outcome]int{}
	for range 20000 {
		left := uint64(math.MaxInt64) + uint64(chance.IntN(5)) - 2
		n := api.Normal{Kind: api.NormalKind(chance.IntN(2))}
		values := make([]int64, chance.IntN(7))
		for i := range values {
			size := chance.Uint64N(left/2 + 1)
			left -= size
			n.Names, n.Coefs = append(n.Names, fmt.Sprintf("x%d", i)), append(n.Coefs, int64(size)*int64(chance.IntN(2)*2-1))
			values[i] = int64(chance.Uint64()) >> chance.IntN(64)
		}
		n.Bound = int64(min(left, math.MaxInt64)) * int64(chance.IntN(2)*2-1)
		seen[holdNormal(t, n, values)]++
	}
	if seen[outcome{true, api.OK}] < 1000 || seen[outcome{false, api.OK}] < 1000 || seen[outcome{false, api.ErrShape}] < 1000 {
		t.Errorf("the answers: %v", seen)
	}
	// So many great coefficients that their sum comes round to a small one.
	for count := range 12 {
		n := api.Normal{}
		for i := range count {
			n.Names, n.Coefs = append(n.Names, fmt.Sprintf("x%02d", i)), append(n.Coefs, math.MinInt64)
		}
		holdNormal(t, n, make([]int64, count))
	}
}

func TestP10_3ManyNames(t *testing.T) {
	n, values := api.Normal{}, []int64(nil)
	for i := range 100000 {
		n.Names, n.Coefs = append(n.Names, fmt.Sprintf("x%06d", i)), append(n.Coefs, int64(i%3-1))
		values = append(values, math.MinInt64)
	}
	// The coefficients are -1, 0, 1 and so on, the last one -1, so that the sum is 2^63.
	if o := holdNormal(t, n, values); o != (outcome{false, api.OK}) {
		t.Errorf("P10.3: 100000 names: %v", o)
	}
	n.Coefs[99999] = 0
	for _, kind := range []api.NormalKind{api.NormalLe, api.NormalEq} {
		n.Kind = kind
		if o := holdNormal(t, n, values); o != (outcome{true, api.OK}) {
			t.Errorf("P10.3: 100000 names: %v", o)
		}
	}
	x := add(name("x000000"), name("x099999"))
	if err := holdTerm(t, x, n.Names, values); err != api.OK {
		t.Errorf("P10.1: 100000 names: %d", err)
	}
	n.Names[99999] = n.Names[99998]
	if o := holdNormal(t, n, values); o != (outcome{false, api.ErrShape}) {
		t.Errorf("P10.3: 100000 names, the last one twice: %v", o)
	}
}

// TestP10WhatFollows: of an atom's normal form Normal says what Formula does of the atom, of a Ne the contrary.
func TestP10WhatFollows(t *testing.T) {
	c := chance{rand.New(rand.NewPCG(10, 33))}
	held := map[bool]int{}
	for range 40000 {
		f := c.atom()
		n, err := norm.Atom(f)
		if err != api.OK {
			continue
		}
		names := someNames()
		values := make([]int64, len(names))
		for i := range values {
			values[i] = c.value()
		}
		want, err := truth.Formula(f, names, values)
		if err != api.OK {
			t.Fatalf("P10.2: %d", err)
		}
		own := make([]int64, len(n.Names))
		for i, s := range n.Names {
			own[i] = values[slices.Index(names, s)]
		}
		got, err := truth.Normal(n, own)
		if (got == want) == (f.Op == api.Ne) || err != api.OK {
			text, _ := show.Formula(f)
			t.Fatalf("%s of %d: %v; its normal atom %+v: %v, %d", text, values, want, n, got, err)
		}
		held[want]++
	}
	if held[true] < 2000 || held[false] < 2000 {
		t.Errorf("held: %v", held)
	}
}

func TestRule2AnswersHangOnArgumentsAlone(t *testing.T) {
	x, names := sub(mul(name("x"), name("x")), name("y")), []string{"x", "y"}
	f := of(api.Iff, atom(api.Gt, x, num(0)), cong(x, num(1), 3))
	wantText, _ := referenceTerm(x, names, []int64{5, 3})
	wantHolds, _ := referenceFormula(f, names, []int64{5, 3})
	for range 3 {
		if text, err := truth.Term(x, names, []int64{5, 3}); text != wantText || err != api.OK {
			t.Errorf("Term = %q, %d", text, err)
		}
		// A call that gives up in the midst leaves nothing behind.
		truth.Term(x, []string{"x"}, []int64{5})
		if is, err := truth.Formula(f, names, []int64{5, 3}); is != wantHolds || err != api.OK {
			t.Errorf("Formula = %v, %d", is, err)
		}
		truth.Formula(f, []string{"x"}, []int64{5})
	}
}

func TestRule3ArgumentsStay(t *testing.T) {
	// The lists have spare room, which a call might write to.
	args := []api.Term{name("y"), num(7), name("spare"), num(8)}
	terms := []api.Term{term(api.TermMul, args[:2]...), name("x"), name("other"), num(9)}
	parts := []api.Formula{{Op: api.Ne, Terms: terms[:2]}, {Op: api.Cong, Modulus: 3, Terms: terms[:2]}, {Op: api.False}, {Op: api.True}}
	f := api.Formula{Op: api.Or, Args: parts[:2]}
	names, values := []string{"x", "y", "spare", "room"}, []int64{-4, 4, 77, 78}
	n := api.Normal{Names: names[:2], Coefs: values[:2], Bound: -1}
	told := func() string { return fmt.Sprint(args, terms, parts, f, names, values, n) }
	before := told()
	if _, err := truth.Term(terms[0], names[:2], values[:2]); err != api.OK {
		t.Errorf("Term: %d", err)
	}
	if _, err := truth.Formula(f, names[:2], values[:2]); err != api.OK {
		t.Errorf("Formula: %d", err)
	}
	for kind := range api.NormalKind(4) {
		n.Kind = kind
		truth.Normal(n, values[:2])
	}
	n.Kind = api.NormalLe
	if _, err := truth.Normal(n, values[:2]); err != api.OK {
		t.Errorf("Normal: %d", err)
	}
	truth.Term(terms[0], names[:1], values[:1])
	truth.Formula(f, names[:1], values[:1])
	if after := told(); after != before {
		t.Errorf("%s became %s", before, after)
	}
}

func TestRule4EmptyListsAreNil(t *testing.T) {
	none, parts := []api.Term{}, []api.Formula{}
	x := api.Term{Op: api.TermNumber, Number: 3, Args: none}
	for _, names := range [][]string{nil, {}} {
		for _, values := range [][]int64{nil, {}} {
			if text, err := truth.Term(x, names, values); text != "3" || err != api.OK {
				t.Errorf("Term = %q, %d", text, err)
			}
			f := api.Formula{Op: api.Le, Args: parts, Terms: []api.Term{x, x}}
			if is, err := truth.Formula(f, names, values); !is || err != api.OK {
				t.Errorf("Formula = %v, %d", is, err)
			}
			if is, err := truth.Formula(api.Formula{Args: parts, Terms: none}, names, values); !is || err != api.OK {
				t.Errorf("Formula = %v, %d", is, err)
			}
			for _, coefs := range [][]int64{nil, {}} {
				if is, err := truth.Normal(api.Normal{Names: names, Coefs: coefs}, values); !is || err != api.OK {
					t.Errorf("Normal = %v, %d", is, err)
				}
			}
		}
	}
}

func TestRule5ZeroBesideAnError(t *testing.T) {
	f := of(api.Or, of(api.True), atom(api.Eq, name("x"), name("y")))
	for _, names := range [][]string{nil, {"x"}, {"y"}, {"y", "x"}, {"x", "x"}} {
		values := make([]int64, len(names))
		if is, err := truth.Formula(f, names, values); is || err == api.OK {
			t.Errorf("Formula of %q = %v, %d", names, is, err)
		}
		if text, err := truth.Term(add(name("x"), name("y")), names, values); text != "" || err == api.OK {
			t.Errorf("Term of %q = %q, %d", names, text, err)
		}
	}
}

func FuzzTruth(f *testing.F) {
	for _, s := range []string{"", "x <= 1", "2 * [x - 3] + y - x ~ 5 mod 7", "x * y = 0 -> not y > -x * x", "9223372036854775807 * x > -[1 - 9223372036854775807]", "z = 1 or true", "ex x. x = 1", "x * x * x - 1"} {
		f.Add(s, int64(-3), int64(math.MaxInt64))
	}
	f.Fuzz(func(t *testing.T, s string, x, y int64) {
		names, values := []string{"x", "y"}, []int64{x, y}
		if read, w := parse.Formula(s); w == (api.Fault{}) {
			holdFormula(t, read, names, values)
		}
		if read, w := parse.Term(s); w == (api.Fault{}) {
			holdTerm(t, read, names, values)
		}
	})
}
