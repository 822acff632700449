package norm_test

import (
	"fmt"
	"maps"
	"math"
	"math/big"
	"math/rand/v2"
	"slices"
	"strings"
	"testing"
	"unsafe"

	"tabard/api"
	"tabard/glyph"
	"tabard/norm"
	"tabard/parse"
	"tabard/tree"
)

func num(n int64) api.Term { return api.Term{Op: api.TermNumber, Number: n} }

func name(s string) api.Term { return api.Term{Op: api.TermName, Name: s} }

func term(op api.TermOp, args ...api.Term) api.Term { return api.Term{Op: op, Args: args} }

func neg(t api.Term) api.Term { return term(api.TermNeg, t) }

func add(a, b api.Term) api.Term { return term(api.TermAdd, a, b) }

func sub(a, b api.Term) api.Term { return term(api.TermSub, a, b) }

func mul(a, b api.Term) api.Term { return term(api.TermMul, a, b) }

func atom(op api.Op, a, b api.Term) api.Formula {
	return api.Formula{Op: op, Terms: []api.Term{a, b}}
}

func cong(a, b api.Term, modulus int64) api.Formula {
	return api.Formula{Op: api.Cong, Modulus: modulus, Terms: []api.Term{a, b}}
}

// tell writes all fields of the tree down, so that nil and empty lists are one.
func tell(f api.Formula) string {
	text := fmt.Sprintf("{%d %q %d", f.Op, f.Name, f.Modulus)
	for _, t := range f.Terms {
		text += " " + tellTerm(t)
	}
	for _, part := range f.Args {
		text += " " + tell(part)
	}
	return text + "}"
}

func tellTerm(t api.Term) string {
	text := fmt.Sprintf("<%d %d %q", t.Op, t.Number, t.Name)
	for _, part := range t.Args {
		text += " " + tellTerm(part)
	}
	return text + ">"
}

// exact is a sum over the whole numbers without any bound: by names, the constant by the empty one, which is no name.
type exact map[string]*big.Int

func (e exact) at(s string) *big.Int {
	if n, ok := e[s]; ok {
		return n
	}
	return new(big.Int)
}

func (e exact) named() bool { return len(e) > 1 }

// each works out the numbers of the parts' names, and of the constant, one by one; false, if one leaves 64 bits.
func each(a, b exact, work func(s string) *big.Int) (exact, bool) {
	whole := exact{}
	for _, part := range []exact{a, b} {
		for s := range part {
			whole[s] = work(s)
			if !whole[s].IsInt64() {
				return nil, false
			}
		}
	}
	return whole, true
}

// exactly is P9.1 for a right term, row by row.
func exactly(t api.Term) (exact, api.Errno) {
	var parts []exact
	for _, part := range t.Args {
		e, err := exactly(part)
		if err != api.OK {
			return nil, err
		}
		parts = append(parts, e)
	}
	whole, fits := exact(nil), true
	switch t.Op {
	case api.TermNumber:
		whole = exact{"": big.NewInt(t.Number)}
	case api.TermName:
		whole = exact{"": new(big.Int), t.Name: big.NewInt(1)}
	case api.TermNeg:
		whole, fits = each(parts[0], nil, func(s string) *big.Int { return new(big.Int).Neg(parts[0].at(s)) })
	case api.TermAdd:
		whole, fits = each(parts[0], parts[1], func(s string) *big.Int { return new(big.Int).Add(parts[0].at(s), parts[1].at(s)) })
	case api.TermSub:
		whole, fits = each(parts[0], parts[1], func(s string) *big.Int { return new(big.Int).Sub(parts[0].at(s), parts[1].at(s)) })
	case api.TermMul:
		if parts[0].named() && parts[1].named() {
			return nil, api.ErrLinear
		}
		// Of a product of two sums without one of two names, each number is the one's times the other's constant.
		with, other := parts[0], parts[1]
		if other.named() {
			with, other = other, with
		}
		whole, fits = each(with, nil, func(s string) *big.Int { return new(big.Int).Mul(with.at(s), other.at("")) })
	}
	if !fits {
		return nil, api.ErrCoeff
	}
	return whole, api.OK
}

// lists answers the sum's names, rising, and the numbers of these.
func (e exact) lists() (names []string, coefs []int64) {
	for _, s := range slices.Sorted(maps.Keys(e)) {
		if s != "" {
			names, coefs = append(names, s), append(coefs, e[s].Int64())
		}
	}
	return names, coefs
}

func holdLinear(t *testing.T, x api.Term) api.Errno {
	t.Helper()
	var wantNames []string
	var wantCoefs []int64
	var wantConstant int64
	wantErr := tree.CheckTerm(x)
	if wantErr == api.OK {
		var e exact
		e, wantErr = exactly(x)
		wantNames, wantCoefs = e.lists()
		wantConstant = e.at("").Int64()
	}
	names, coefs, constant, err := norm.Linear(x)
	if err != wantErr || !slices.Equal(names, wantNames) || !slices.Equal(coefs, wantCoefs) || constant != wantConstant {
		t.Fatalf("P9.1: Linear(%.500s) = %q, %d, %d, error %d; want %q, %d, %d, error %d", tellTerm(x), names, coefs, constant, err, wantNames, wantCoefs, wantConstant, wantErr)
	}
	return err
}

// reference is P9.2 in its own words.
func reference(f api.Formula) (api.Normal, api.Errno) {
	if err := tree.Check(f); err != api.OK {
		return api.Normal{}, err
	}
	if f.Op < api.Le || f.Op > api.Cong {
		return api.Normal{}, api.ErrShape
	}
	var sums [2]exact
	for i, x := range f.Terms {
		e, err := exactly(x)
		if err != api.OK {
			return api.Normal{}, err
		}
		sums[i] = e
	}
	a, b := sums[0], sums[1]
	if f.Op == api.Ge || f.Op == api.Gt {
		a, b = b, a
	}
	e, fits := each(a, b, func(s string) *big.Int { return new(big.Int).Sub(a.at(s), b.at(s)) })
	if !fits {
		return api.Normal{}, api.ErrCoeff
	}
	bound := new(big.Int).Neg(e.at(""))
	if !bound.IsInt64() {
		return api.Normal{}, api.ErrCoeff
	}
	if f.Op == api.Lt || f.Op == api.Gt {
		bound.Sub(bound, big.NewInt(1))
	}
	if !bound.IsInt64() {
		return api.Normal{}, api.ErrCoeff
	}
	n := api.Normal{Kind: map[api.Op]api.NormalKind{api.Eq: api.NormalEq, api.Ne: api.NormalEq, api.Cong: api.NormalCong}[f.Op], Bound: bound.Int64(), Modulus: f.Modulus}
	n.Names, n.Coefs = e.lists()
	if f.Op == api.Cong {
		for _, p := range append(pointers(n.Coefs), &n.Bound) {
			// Mod is the rest of Euclid's division, never below 0.
			*p = new(big.Int).Mod(big.NewInt(*p), big.NewInt(f.Modulus)).Int64()
		}
	}
	if !total(n).IsInt64() {
		return api.Normal{}, api.ErrCoeff
	}
	return n, api.OK
}

func pointers(list []int64) []*int64 {
	var all []*int64
	for i := range list {
		all = append(all, &list[i])
	}
	return all
}

// total is the sum of the absolute values of the Coefs and the Bound.
func total(n api.Normal) *big.Int {
	all := new(big.Int).Abs(big.NewInt(n.Bound))
	for _, coef := range n.Coefs {
		all.Add(all, new(big.Int).Abs(big.NewInt(coef)))
	}
	return all
}

// right is the document's section 'Words' of a right normal atom.
func right(n api.Normal) bool {
	if len(n.Names) != len(n.Coefs) || !glyph.Rises(n.Names) || !total(n).IsInt64() {
		return false
	}
	switch n.Kind {
	case api.NormalLe, api.NormalEq:
		return n.Modulus == 0
	case api.NormalCong:
		for _, number := range append([]int64{n.Bound}, n.Coefs...) {
			if number < 0 || number > n.Modulus-1 {
				return false
			}
		}
		return n.Modulus >= 1
	}
	return false
}

func equal(a, b api.Normal) bool {
	return a.Kind == b.Kind && slices.Equal(a.Names, b.Names) && slices.Equal(a.Coefs, b.Coefs) && a.Bound == b.Bound && a.Modulus == b.Modulus
}

func holdAtom(t *testing.T, f api.Formula) api.Errno {
	t.Helper()
	want, wantErr := reference(f)
	got, err := norm.Atom(f)
	if err != wantErr || !equal(got, want) {
		t.Fatalf("P9.2: Atom(%.500s) = %+v, error %d; want %+v, error %d", tell(f), got, err, want, wantErr)
	}
	if err == api.OK && norm.Check(got) != api.OK {
		t.Fatalf("P9.3: Check(%+v) = %d, which Atom answered", got, norm.Check(got))
	}
	return err
}

// atoms are those of all kinds over the two terms, a Cong for each modulus.
func atoms(a, b api.Term, moduli ...int64) []api.Formula {
	var all []api.Formula
	for op := api.Le; op <= api.Ne; op++ {
		all = append(all, atom(op, a, b))
	}
	for _, m := range moduli {
		all = append(all, cong(a, b, m))
	}
	return all
}

func TestP9_1Examples(t *testing.T) {
	for _, c := range []struct {
		text     string
		names    []string
		coefs    []int64
		constant int64
		err      api.Errno
	}{
		{"2 * [x - 3] + y - x", []string{"x", "y"}, []int64{1, 1}, -6, api.OK},
		{"x - x", []string{"x"}, []int64{0}, 0, api.OK},
		{"2 * 3 - 1", nil, nil, 5, api.OK},
		{"x * y", nil, nil, 0, api.ErrLinear}, {"x * [y - y]", nil, nil, 0, api.ErrLinear}, {"[x + 1] * x", nil, nil, 0, api.ErrLinear},
		{"3 * x * 2", []string{"x"}, []int64{6}, 0, api.OK},
		{"9223372036854775807 + 1", nil, nil, 0, api.ErrCoeff}, {"9223372036854775807 * x * 2", nil, nil, 0, api.ErrCoeff},
		{"0 * x", []string{"x"}, []int64{0}, 0, api.OK}, {"x * 0 * y", nil, nil, 0, api.ErrLinear}, {"[x - x] * [x - x]", nil, nil, 0, api.ErrLinear},
		{"-[x - y - 2]", []string{"x", "y"}, []int64{-1, 1}, 2, api.OK}, {"[3 + x] * -2", []string{"x"}, []int64{-2}, -6, api.OK},
		{"z + a - Z + α - _", []string{"Z", "_", "a", "z", "α"}, []int64{-1, -1, 1, 1, 1}, 0, api.OK},
		// The least number is met by way of a difference only, and what is 0 less it leaves 64 bits.
		{"-9223372036854775807 - 1", nil, nil, math.MinInt64, api.OK}, {"-[-9223372036854775807 - 1]", nil, nil, 0, api.ErrCoeff},
		{"-9223372036854775807 * x - x", []string{"x"}, []int64{math.MinInt64}, 0, api.OK}, {"-[-9223372036854775807 * x - x]", nil, nil, 0, api.ErrCoeff},
		{"-1 - [-9223372036854775807 - 1]", nil, nil, math.MaxInt64, api.OK}, {"0 - [-9223372036854775807 - 1]", nil, nil, 0, api.ErrCoeff},
		// The first error, the parts ahead of the term.
		{"x * y + [9223372036854775807 + 1]", nil, nil, 0, api.ErrLinear}, {"9223372036854775807 + 1 + x * y", nil, nil, 0, api.ErrCoeff},
		{"[9223372036854775807 + x + 1] * x", nil, nil, 0, api.ErrCoeff}, {"x * [9223372036854775807 + x + 1]", nil, nil, 0, api.ErrCoeff},
	} {
		x, w := parse.Term(c.text)
		names, coefs, constant, err := norm.Linear(x)
		if w.Why != api.OK || err != c.err || !slices.Equal(names, c.names) || !slices.Equal(coefs, c.coefs) || constant != c.constant {
			t.Errorf("P9.1: %q: %q, %d, %d, error %d; want %q, %d, %d, error %d", c.text, names, coefs, constant, err, c.names, c.coefs, c.constant, c.err)
		}
		holdLinear(t, x)
	}
}

func TestP9_2Examples(t *testing.T) {
	xy := []string{"x", "y"}
	for _, c := range []struct {
		text string
		want api.Normal
		err  api.Errno
	}{
		{"2 * x < y + 3", api.Normal{Names: xy, Coefs: []int64{2, -1}, Bound: 2}, api.OK},
		{"2 * x <= y + 3", api.Normal{Names: xy, Coefs: []int64{2, -1}, Bound: 3}, api.OK},
		{"2 * x > y + 3", api.Normal{Names: xy, Coefs: []int64{-2, 1}, Bound: -4}, api.OK},
		{"2 * x >= y + 3", api.Normal{Names: xy, Coefs: []int64{-2, 1}, Bound: -3}, api.OK},
		{"2 * x = y + 3", api.Normal{Kind: api.NormalEq, Names: xy, Coefs: []int64{2, -1}, Bound: 3}, api.OK},
		{"x > 1", api.Normal{Names: []string{"x"}, Coefs: []int64{-1}, Bound: -2}, api.OK},
		{"x != 5 - x", api.Normal{Kind: api.NormalEq, Names: []string{"x"}, Coefs: []int64{2}, Bound: 5}, api.OK},
		{"7 * x - y ~ 1 mod 3", api.Normal{Kind: api.NormalCong, Names: xy, Coefs: []int64{1, 2}, Bound: 1, Modulus: 3}, api.OK},
		{"9223372036854775807 * x = 1", api.Normal{}, api.ErrCoeff},
		{"9223372036854775807 * x = 0", api.Normal{Kind: api.NormalEq, Names: []string{"x"}, Coefs: []int64{math.MaxInt64}}, api.OK},
		{"9223372036854775806 * x = -1", api.Normal{Kind: api.NormalEq, Names: []string{"x"}, Coefs: []int64{math.MaxInt64 - 1}, Bound: -1}, api.OK},
		{"1 <= 2", api.Normal{Bound: 1}, api.OK},
		{"0 * x <= y - y", api.Normal{Names: xy, Coefs: []int64{0, 0}}, api.OK},
		// What is too great for the sum of a Cong is brought to its rest first, but for what leaves 64 bits ahead of that.
		{"9223372036854775807 * x + 9223372036854775807 * y ~ 5 mod 10", api.Normal{Kind: api.NormalCong, Names: xy, Coefs: []int64{7, 7}, Bound: 5, Modulus: 10}, api.OK},
		{"-9223372036854775807 * x - x ~ 0 mod 3", api.Normal{Kind: api.NormalCong, Names: []string{"x"}, Coefs: []int64{1}, Modulus: 3}, api.OK},
		{"-9223372036854775807 - 1 ~ 0 mod 3", api.Normal{}, api.ErrCoeff},
		{"1 ~ -9223372036854775807 mod 3", api.Normal{}, api.ErrCoeff},
		{"x ~ y mod 9223372036854775807", api.Normal{Kind: api.NormalCong, Names: xy, Coefs: []int64{1, math.MaxInt64 - 1}, Modulus: math.MaxInt64}, api.OK},
		{"x ~ y + 1 mod 9223372036854775807", api.Normal{}, api.ErrCoeff},
		{"x ~ 8 mod 1", api.Normal{Kind: api.NormalCong, Names: []string{"x"}, Coefs: []int64{0}, Modulus: 1}, api.OK},
		// The bound of the strict ones leaves 64 bits only where the sum does, too.
		{"9223372036854775807 < 0", api.Normal{}, api.ErrCoeff}, {"9223372036854775807 <= 0", api.Normal{Bound: -math.MaxInt64}, api.OK},
		{"0 < 9223372036854775807", api.Normal{Bound: math.MaxInt64 - 1}, api.OK}, {"0 <= -9223372036854775807 - 1", api.Normal{}, api.ErrCoeff},
		// The first term ahead of the second one, and both ahead of what leaves 64 bits later.
		{"x * y = 9223372036854775807 + 1", api.Normal{}, api.ErrLinear}, {"9223372036854775807 + 1 = x * y", api.Normal{}, api.ErrCoeff},
		{"x * y >= 9223372036854775807 + 1", api.Normal{}, api.ErrLinear}, {"9223372036854775807 + 1 > x * y", api.Normal{}, api.ErrCoeff},
		{"-9223372036854775807 - 1 = x * y", api.Normal{}, api.ErrLinear},
		{"true", api.Normal{}, api.ErrShape}, {"false", api.Normal{}, api.ErrShape}, {"not x = 1", api.Normal{}, api.ErrShape}, {"x = 1 and y = 1", api.Normal{}, api.ErrShape}, {"ex x. x * x = 1", api.Normal{}, api.ErrShape},
	} {
		f, w := parse.Formula(c.text)
		n, err := norm.Atom(f)
		if w.Why != api.OK || err != c.err || !equal(n, c.want) {
			t.Errorf("P9.2: %q: %+v, error %d; want %+v, error %d", c.text, n, err, c.want, c.err)
		}
		holdAtom(t, f)
	}
}

// terms are all terms of at most the depth over the leaves.
func terms(depth int, leaves ...api.Term) []api.Term {
	if depth == 1 {
		return leaves
	}
	parts := terms(depth-1, leaves...)
	all := slices.Clone(leaves)
	for _, a := range parts {
		all = append(all, neg(a))
		for _, b := range parts {
			all = append(all, add(a, b), sub(a, b), mul(a, b))
		}
	}
	return all
}

func TestP9_1AllSmallTerms(t *testing.T) {
	seen := map[api.Errno]int{}
	for _, leaves := range [][]api.Term{
		{num(0), num(2), name("y"), name("x")},
		{num(math.MaxInt64), num(1), num(1 << 32), name("x")},
		{num(math.MaxInt64), num(1), name("b"), name("a")},
		{num(3037000500), num(3037000499), num(1 << 62), num(2)},
	} {
		for _, x := range terms(3, leaves...) {
			seen[holdLinear(t, x)]++
		}
	}
	if seen[api.OK] < 1000 || seen[api.ErrLinear] < 1000 || seen[api.ErrCoeff] < 1000 {
		t.Errorf("the small terms' answers: %v", seen)
	}
}

func TestP9_2AllSmallAtoms(t *testing.T) {
	seen := map[api.Errno]int{}
	for _, leaves := range [][]api.Term{
		{num(0), num(2), name("y"), name("x")},
		{num(math.MaxInt64), num(1), name("x")},
		{num(1 << 62), num(1<<62 - 1), name("x")},
	} {
		all := terms(2, leaves...)
		for _, a := range all {
			for _, b := range all {
				for _, f := range atoms(a, b, 1, 2, 3, 1<<62, math.MaxInt64) {
					seen[holdAtom(t, f)]++
				}
			}
		}
	}
	if seen[api.OK] < 1000 || seen[api.ErrLinear] < 1000 || seen[api.ErrCoeff] < 1000 {
		t.Errorf("the small atoms' answers: %v", seen)
	}
}

// sumOf is a term with the coefficients of x0, x1 .., and the constant, each of which may be any number but the least.
func sumOf(coefs []int64, constant int64) api.Term {
	whole := signed(constant)
	for i, coef := range coefs {
		whole = add(whole, mul(signed(coef), name(fmt.Sprintf("x%d", i))))
	}
	return whole
}

func signed(n int64) api.Term {
	if n < 0 {
		return neg(num(-n))
	}
	return num(n)
}

// TestP9_2TheSum: coefficients and bounds whose absolute values' sum lies close to 2^63.
func TestP9_2TheSum(t *testing.T) {
	chance := rand.New(rand.NewPCG(92, 1))
	seen := map[api.Errno]int{}
	for range 4000 {
		left := uint64(math.MaxInt64) + uint64(chance.IntN(5)) - 2
		coefs := make([]int64, chance.IntN(7))
		for i := range coefs {
			size := chance.Uint64N(left/2 + 1)
			left -= size
			coefs[i] = int64(size) * int64(chance.IntN(2)*2-1)
		}
		constant := int64(min(left, math.MaxInt64)) * int64(chance.IntN(2)*2-1)
		for _, f := range atoms(sumOf(coefs, constant), num(0), math.MaxInt64, 1+chance.Int64N(math.MaxInt64)) {
			seen[holdAtom(t, f)]++
		}
	}
	if seen[api.OK] < 1000 || seen[api.ErrCoeff] < 1000 {
		t.Errorf("the answers: %v", seen)
	}
}

// chance makes trees by chance.
type chance struct{ *rand.Rand }

func (c chance) name() string {
	return []string{"x", "y", "z", "α₁", "_", "X", "sixteencharacter"}[c.IntN(7)]
}

func (c chance) number() int64 {
	switch c.IntN(8) {
	case 0:
		return math.MaxInt64 - c.Int64N(3)
	case 1:
		return c.Int64() >> c.IntN(63)
	}
	return c.Int64N(20)
}

func (c chance) term(depth int) api.Term {
	if depth == 1 || c.IntN(6) == 0 {
		if c.IntN(2) == 0 {
			return num(c.number())
		}
		return name(c.name())
	}
	switch c.IntN(8) {
	case 0:
		return neg(c.term(depth - 1))
	case 1, 2:
		return sub(c.term(depth-1), c.term(depth-1))
	case 3:
		return mul(c.term(depth-1), c.term(depth-1))
	case 4:
		return mul(num(c.number()), c.term(depth-1))
	}
	return add(c.term(depth-1), c.term(depth-1))
}

func (c chance) atom() api.Formula {
	f := atom(api.Le+api.Op(c.IntN(7)), c.term(1+c.IntN(6)), c.term(1+c.IntN(4)))
	if f.Op == api.Cong {
		f.Modulus = 1 + c.number()%math.MaxInt64
	}
	return f
}

// spoil makes one of the tree's fields another one, mostly a wrong one.
func (c chance) spoil(t *api.Term) {
	for len(t.Args) > 0 && c.IntN(3) > 0 {
		t = &t.Args[c.IntN(len(t.Args))]
	}
	switch c.IntN(4) {
	case 0:
		t.Op = api.TermOp(c.IntN(9) - 1)
	case 1:
		t.Name = []string{"", "and", "x", "1", "x y", "x\xff"}[c.IntN(6)]
	case 2:
		t.Number = c.Int64() - c.Int64()
	default:
		t.Args = append(t.Args, num(1))
	}
}

func TestP9ByChance(t *testing.T) {
	c := chance{rand.New(rand.NewPCG(9, 9))}
	seen := map[api.Errno]int{}
	for i := range 20000 {
		x, f := c.term(1+c.IntN(7)), c.atom()
		if i%5 == 0 {
			c.spoil(&x)
			c.spoil(&f.Terms[c.IntN(2)])
		}
		seen[holdLinear(t, x)]++
		seen[holdAtom(t, f)]++
	}
	for _, err := range []api.Errno{api.OK, api.ErrLinear, api.ErrCoeff, api.ErrShape} {
		if seen[err] < 1000 {
			t.Errorf("the answers: %v", seen)
		}
	}
}

// values work a right term out over the whole numbers.
func values(t api.Term, of map[string]*big.Int) *big.Int {
	switch t.Op {
	case api.TermNumber:
		return big.NewInt(t.Number)
	case api.TermName:
		return of[t.Name]
	case api.TermNeg:
		return new(big.Int).Neg(values(t.Args[0], of))
	}
	a, b := values(t.Args[0], of), values(t.Args[1], of)
	switch t.Op {
	case api.TermAdd:
		return new(big.Int).Add(a, b)
	case api.TermSub:
		return new(big.Int).Sub(a, b)
	}
	return new(big.Int).Mul(a, b)
}

// holds tells whether an atom holds of the values, a Ne as its Eq.
func holds(f api.Formula, of map[string]*big.Int) bool {
	a, b := values(f.Terms[0], of), values(f.Terms[1], of)
	switch f.Op {
	case api.Le:
		return a.Cmp(b) <= 0
	case api.Lt:
		return a.Cmp(b) < 0
	case api.Ge:
		return a.Cmp(b) >= 0
	case api.Gt:
		return a.Cmp(b) > 0
	case api.Eq, api.Ne:
		return a.Cmp(b) == 0
	}
	return restOf(new(big.Int).Sub(a, b), f.Modulus) == 0
}

func restOf(n *big.Int, modulus int64) int64 {
	return new(big.Int).Mod(n, big.NewInt(modulus)).Int64()
}

// normalHolds is the document's section 'Words' of what a normal atom says.
func normalHolds(n api.Normal, of map[string]*big.Int) bool {
	whole := new(big.Int)
	for i, s := range n.Names {
		whole.Add(whole, new(big.Int).Mul(big.NewInt(n.Coefs[i]), of[s]))
	}
	bound := big.NewInt(n.Bound)
	switch n.Kind {
	case api.NormalLe:
		return whole.Cmp(bound) <= 0
	case api.NormalEq:
		return whole.Cmp(bound) == 0
	}
	return restOf(whole, n.Modulus) == restOf(bound, n.Modulus)
}

func TestP9_2HoldsOfTheSameValues(t *testing.T) {
	c := chance{rand.New(rand.NewPCG(9, 2))}
	held, not := 0, 0
	for range 20000 {
		f := c.atom()
		if c.IntN(2) == 0 {
			f.Terms[0], f.Terms[1] = sub(f.Terms[0], f.Terms[1]), add(num(c.Int64N(5)), mul(num(c.Int64N(3)), name(c.name())))
		}
		n, err := norm.Atom(f)
		if err != api.OK {
			continue
		}
		for range 4 {
			of := map[string]*big.Int{}
			for _, s := range []string{"x", "y", "z", "α₁", "_", "X", "sixteencharacter"} {
				of[s] = big.NewInt(c.Int64N(7) - 3)
			}
			want := holds(f, of)
			if got := normalHolds(n, of); got != want {
				t.Fatalf("P9.2: %s holds: %v, %+v holds: %v, of %v", tell(f), want, n, got, of)
			}
			if want {
				held++
			} else {
				not++
			}
		}
	}
	if held < 5000 || not < 5000 {
		t.Errorf("%d held, %d did not", held, not)
	}
}

// wide is a flat term of that many nodes, which is to be odd.
func wide(size int, leaf func(i int) api.Term) api.Term {
	leaves := make([]api.Term, (size+1)/2)
	for i := range leaves {
		leaves[i] = leaf(i)
	}
	for len(leaves) > 1 {
		last := len(leaves) / 2
		for i := range last {
			leaves[i] = add(leaves[2*i], leaves[2*i+1])
		}
		if len(leaves)%2 == 1 {
			leaves[last] = leaves[len(leaves)-1]
			last++
		}
		leaves = leaves[:last]
	}
	return leaves[0]
}

func TestP9Bounds(t *testing.T) {
	numbered := func(i int) api.Term { return name(fmt.Sprintf("x%d", 300-i)) }
	for size := 489; size <= 509; size += 2 {
		x := wide(size, numbered)
		if err := holdLinear(t, x); (err == api.OK) != (size <= 500) {
			t.Errorf("P9.1: term of %d nodes: %d", size, err)
		}
		for _, f := range atoms(x, num(1), 5) {
			if err := holdAtom(t, f); (err == api.OK) != (size+2 <= 500) {
				t.Errorf("P9.2: atom of %d nodes: %d", size+2, err)
			}
		}
		holdAtom(t, atom(api.Ge, neg(num(1)), neg(x)))
	}
	if names, _, _, _ := norm.Linear(wide(499, numbered)); len(names) != 250 {
		t.Errorf("P9.1: a term of 250 names: %d", len(names))
	}
	x := name("x")
	for depth := 1; depth <= 60; depth++ {
		if err := holdLinear(t, x); (err == api.OK) != (depth <= 40) {
			t.Errorf("P9.1: term of depth %d: %d", depth, err)
		}
		if err := holdAtom(t, atom(api.Lt, num(1), x)); (err == api.OK) != (depth+1 <= 40) {
			t.Errorf("P9.2: atom of depth %d: %d", depth+1, err)
		}
		if depth%2 == 0 {
			x = neg(x)
		} else {
			x = add(x, name("y"))
		}
	}
	// A coefficient doubled 62 times stays within 64 bits, once more it doesn't.
	x = name("x")
	for range 30 {
		x = mul(num(2), x)
	}
	for extra := range 40 {
		y := mul(x, num(1<<extra))
		if err := holdLinear(t, y); (err == api.OK) != (extra <= 32) {
			t.Errorf("P9.1: 2^%d * x: %d", 30+extra, err)
		}
	}
}

func TestP9WrongTrees(t *testing.T) {
	many, deep := name("x"), name("x")
	for range 30 {
		many = add(many, many)
	}
	for range 60 {
		deep = neg(deep)
	}
	// A list that holds itself is a tree without end.
	list := make([]api.Term, 1)
	list[0] = term(api.TermNeg)
	list[0].Args = list
	for _, c := range []struct {
		x    api.Term
		want api.Errno
	}{
		{num(-1), api.ErrShape}, {num(math.MinInt64), api.ErrShape}, {name(""), api.ErrShape}, {name("mod"), api.ErrShape}, {name("x\xff"), api.ErrShape},
		{term(6, num(1), num(1)), api.ErrShape}, {term(-1), api.ErrShape}, {term(api.TermNeg), api.ErrShape}, {term(api.TermMul, num(1)), api.ErrShape}, {term(api.TermAdd, num(1), num(1), num(1)), api.ErrShape},
		{mul(name("x"), mul(name("x"), num(-1))), api.ErrShape}, {many, api.ErrMany}, {deep, api.ErrDeep}, {list[0], api.ErrDeep},
		{add(mul(name("x"), name("y")), deep), api.ErrDeep}, {add(mul(num(math.MaxInt64), num(2)), many), api.ErrMany},
	} {
		names, coefs, constant, err := norm.Linear(c.x)
		if len(names) > 0 || len(coefs) > 0 || constant != 0 || err != c.want {
			t.Errorf("P9.1: Linear = %q, %d, %d, error %d; want error %d", names, coefs, constant, err, c.want)
		}
		for _, f := range []api.Formula{atom(api.Eq, c.x, num(1)), atom(api.Gt, mul(name("x"), name("x")), c.x), cong(num(1), c.x, 2), {Op: api.Not, Args: []api.Formula{atom(api.Eq, num(1), c.x)}}} {
			if n, err := norm.Atom(f); !equal(n, api.Normal{}) || err != c.want {
				t.Errorf("P9.2: Atom = %+v, error %d; want error %d", n, err, c.want)
			}
		}
	}
	x := name("x")
	wrong := []api.Formula{
		cong(x, x, 0), cong(x, x, -3), cong(x, x, math.MinInt64), {Op: api.Eq, Modulus: 2, Terms: []api.Term{x, x}}, {Op: api.Le, Name: "x", Terms: []api.Term{x, x}},
		{Op: api.Le}, {Op: api.Le, Terms: []api.Term{x}}, {Op: api.Le, Terms: []api.Term{x, x, x}}, {Op: api.Cong, Modulus: 2}, {Op: api.True, Terms: []api.Term{x, x}},
		{Op: api.Eq, Terms: []api.Term{x, x}, Args: []api.Formula{{}}}, {}, {Op: api.False}, {Op: api.Not, Args: []api.Formula{{}}},
	}
	for op := api.Op(-2); op <= 20; op++ {
		f := atom(op, x, x)
		if err := holdAtom(t, f); (err == api.OK) != (op >= api.Le && op <= api.Ne) {
			t.Errorf("P9.2: an atom with the Op %d: %d", op, err)
		}
	}
	for op := api.And; op <= api.Iff; op++ {
		wrong = append(wrong, api.Formula{Op: op, Args: []api.Formula{{}, {}}})
	}
	for op := api.Ex; op <= api.All; op++ {
		wrong = append(wrong, api.Formula{Op: op, Name: "x", Args: []api.Formula{atom(api.Eq, x, x)}})
	}
	for _, f := range wrong {
		if n, err := norm.Atom(f); !equal(n, api.Normal{}) || err != api.ErrShape {
			t.Errorf("P9.2: Atom(%s) = %+v, error %d; want ErrShape", tell(f), n, err)
		}
	}
}

func holdCheck(t *testing.T, n api.Normal) api.Errno {
	t.Helper()
	want := api.ErrShape
	if right(n) {
		want = api.OK
	}
	if got := norm.Check(n); got != want {
		t.Fatalf("P9.3: Check(%.500v) = %d; want %d", n, got, want)
	}
	return want
}

func TestP9_3EveryField(t *testing.T) {
	names := [][]string{nil, {}, {"x"}, {"x", "y"}, {"y", "x"}, {"x", "x"}, {"x", ""}, {"", "x"}, {"and"}, {"x", "é"}, {"Z", "a"}, {"a", "Z"}, {"x", "α"}, {strings.Repeat("a", 16)}, {strings.Repeat("a", 17)}, {"x", "x1", "x2"}}
	numbers := []int64{math.MinInt64, -math.MaxInt64, -3, -1, 0, 1, 2, 3, 1 << 62, math.MaxInt64 - 3, math.MaxInt64 - 2, math.MaxInt64 - 1, math.MaxInt64}
	coefs := [][]int64{nil, {}, {0, 0, 0}, {1, 1, 1}, {2, 2, -2}}
	for _, a := range numbers {
		coefs = append(coefs, []int64{a})
		for _, b := range numbers {
			coefs = append(coefs, []int64{a, b})
		}
	}
	moduli := []int64{math.MinInt64, -1, 0, 1, 2, 3, math.MaxInt64 - 1, math.MaxInt64}
	rightOnes := map[api.NormalKind]int{}
	for kind := api.NormalKind(-1); kind <= 4; kind++ {
		for _, list := range names {
			for _, c := range coefs {
				for _, bound := range numbers {
					for _, m := range moduli {
						if holdCheck(t, api.Normal{Kind: kind, Names: list, Coefs: c, Bound: bound, Modulus: m}) == api.OK {
							rightOnes[kind]++
						}
					}
				}
			}
		}
	}
	if len(rightOnes) != 3 || rightOnes[api.NormalLe] != rightOnes[api.NormalEq] || rightOnes[api.NormalEq] < 500 || rightOnes[api.NormalCong] < 500 {
		t.Errorf("P9.3: right ones by kind: %v", rightOnes)
	}
	for _, kind := range []api.NormalKind{math.MinInt64, math.MaxInt64, 1 << 32, 256, 3, -1} {
		holdCheck(t, api.Normal{Kind: kind})
		holdCheck(t, api.Normal{Kind: kind, Modulus: 1})
	}
}

func TestP9_3Examples(t *testing.T) {
	x := []string{"x"}
	for _, c := range []struct {
		what string
		n    api.Normal
		want api.Errno
	}{
		{"nothing", api.Normal{}, api.OK},
		{"a Cong without a modulus", api.Normal{Kind: api.NormalCong}, api.ErrShape},
		{"a Cong modulo 1", api.Normal{Kind: api.NormalCong, Modulus: 1}, api.OK},
		{"a bound that is no rest", api.Normal{Kind: api.NormalCong, Modulus: 3, Bound: 3}, api.ErrShape},
		{"a coefficient that is no rest", api.Normal{Kind: api.NormalCong, Modulus: 3, Names: x, Coefs: []int64{-1}}, api.ErrShape},
		{"a Le with a modulus", api.Normal{Modulus: 1}, api.ErrShape},
		{"a name too many", api.Normal{Names: x}, api.ErrShape},
		{"a coefficient too many", api.Normal{Coefs: []int64{0}}, api.ErrShape},
		{"the greatest sum", api.Normal{Names: x, Coefs: []int64{-math.MaxInt64}}, api.OK},
		{"a sum too great by 1", api.Normal{Names: x, Coefs: []int64{-math.MaxInt64}, Bound: -1}, api.ErrShape},
		{"the least bound", api.Normal{Kind: api.NormalEq, Bound: math.MinInt64}, api.ErrShape},
	} {
		if got := norm.Check(c.n); got != c.want {
			t.Errorf("P9.3: %s: %d; want %d", c.what, got, c.want)
		}
	}
}

func TestP9_3ManyNames(t *testing.T) {
	n := api.Normal{}
	for i := range 100000 {
		n.Names, n.Coefs = append(n.Names, fmt.Sprintf("x%06d", i)), append(n.Coefs, int64(i%3-1))
	}
	if holdCheck(t, n) != api.OK {
		t.Error("P9.3: 100000 names")
	}
	n.Names[99999] = n.Names[99998]
	if holdCheck(t, n) != api.ErrShape {
		t.Error("P9.3: 100000 names, the last one twice")
	}
}

func TestRule4EmptyListsAreNil(t *testing.T) {
	none, parts := []api.Term{}, []api.Formula{}
	f := api.Formula{Op: api.Le, Args: parts, Terms: []api.Term{{Op: api.TermName, Name: "x", Args: none}, {Number: 3, Args: none}}}
	if n, err := norm.Atom(f); !equal(n, api.Normal{Names: []string{"x"}, Coefs: []int64{1}, Bound: 3}) || err != api.OK {
		t.Errorf("Atom = %+v, %d", n, err)
	}
	if err := norm.Check(api.Normal{Names: []string{}, Coefs: []int64{}}); err != api.OK {
		t.Errorf("Check of empty lists: %d", err)
	}
	if err := norm.Check(api.Normal{Names: []string{}}); err != api.OK {
		t.Errorf("Check of an empty and a nil list: %d", err)
	}
}

// memory lists the bytes of all that an answer holds, the lists with their spare room.
type memory [][2]uintptr

func (m *memory) add(at unsafe.Pointer, size int) {
	if size > 0 {
		*m = append(*m, [2]uintptr{uintptr(at), uintptr(at) + uintptr(size)})
	}
}

func (m *memory) names(list []string) {
	m.add(unsafe.Pointer(unsafe.SliceData(list)), cap(list)*int(unsafe.Sizeof("")))
	for _, s := range list {
		m.add(unsafe.Pointer(unsafe.StringData(s)), len(s))
	}
}

func (m *memory) numbers(list []int64) {
	m.add(unsafe.Pointer(unsafe.SliceData(list)), cap(list)*8)
}

// apart tells whether no two of the pieces share a byte.
func (m memory) apart() bool {
	sorted := slices.Clone(m)
	slices.SortFunc(sorted, func(a, b [2]uintptr) int { return int(a[0]) - int(b[0]) })
	for i := range sorted {
		if i > 0 && sorted[i-1][1] > sorted[i][0] {
			return false
		}
	}
	return true
}

func TestRule3NewMemory(t *testing.T) {
	text := strings.Clone("averyveryverylonx")
	a, b := name(text[:16]), name(text[16:])
	for _, x := range []api.Term{a, neg(a), mul(num(1), a), mul(a, num(2)), add(a, b), sub(add(a, a), b), add(num(1), add(b, sub(a, b)))} {
		before := tellTerm(x)
		var all memory
		all.add(unsafe.Pointer(unsafe.StringData(text)), len(text))
		for range 2 {
			names, coefs, _, _ := norm.Linear(x)
			all.names(names)
			all.numbers(coefs)
			for _, f := range atoms(x, b, 3) {
				n, _ := norm.Atom(f)
				all.names(n.Names)
				all.numbers(n.Coefs)
			}
		}
		if !all.apart() {
			t.Errorf("answers for %s share memory", before)
		}
		if tellTerm(x) != before {
			t.Errorf("%s was changed to %s", before, tellTerm(x))
		}
	}
}

func TestRule3ArgumentsStay(t *testing.T) {
	// The lists have spare room, which a call might write to.
	list := []api.Term{name("x"), num(7), name("spare"), num(8)}
	args := []api.Term{name("y"), name("x"), name("other"), num(9)}
	list[0] = term(api.TermAdd, args[:2]...)
	whole := api.Formula{Terms: list, Args: []api.Formula{{Terms: args}}}
	before := tell(whole)
	for op := api.Le; op <= api.Cong; op++ {
		f := api.Formula{Op: op, Terms: list[:2]}
		if op == api.Cong {
			f.Modulus = 5
		}
		if _, err := norm.Atom(f); err != api.OK {
			t.Errorf("Atom: %d", err)
		}
	}
	norm.Linear(list[0])
	if after := tell(whole); after != before {
		t.Errorf("%s became %s", before, after)
	}
	names, coefs := []string{"a", "b", "spare"}, []int64{-4, 4, 77}
	n := api.Normal{Names: names[:2], Coefs: coefs[:2], Bound: -1}
	for kind := range api.NormalKind(3) {
		n.Kind, n.Modulus = kind, int64(kind/2)*3
		norm.Check(n)
	}
	if !slices.Equal(names, []string{"a", "b", "spare"}) || !slices.Equal(coefs, []int64{-4, 4, 77}) {
		t.Errorf("Check changed the lists: %q, %d", names, coefs)
	}
}

func FuzzAtom(f *testing.F) {
	for _, s := range []string{"", "x <= 1", "2 * [x - 3] + y - x ~ 5 mod 7", "x * y = 0", "9223372036854775807 * x > -[1 - 9223372036854775807]", "-α₁ != 3 * [β - 2] * 4", "true", "not x = 1"} {
		f.Add(s)
	}
	f.Fuzz(func(t *testing.T, s string) {
		if read, w := parse.Formula(s); w == (api.Fault{}) {
			holdAtom(t, read)
		}
		if read, w := parse.Term(s); w == (api.Fault{}) {
			holdLinear(t, read)
		}
	})
}
