package tree_test

import (
	"math"
	"math/rand/v2"
	"reflect"
	"regexp"
	"slices"
	"strings"
	"testing"
	"unsafe"

	"tabard/api"
	"tabard/tree"
)

func number(n int64) api.Term { return api.Term{Op: api.TermNumber, Number: n} }

func name(s string) api.Term { return api.Term{Op: api.TermName, Name: s} }

func term(op api.TermOp, args ...api.Term) api.Term { return api.Term{Op: op, Args: args} }

func atom(op api.Op, a, b api.Term) api.Formula {
	return api.Formula{Op: op, Terms: []api.Term{a, b}}
}

func cong(a, b api.Term, modulus int64) api.Formula {
	return api.Formula{Op: api.Cong, Modulus: modulus, Terms: []api.Term{a, b}}
}

func of(op api.Op, args ...api.Formula) api.Formula { return api.Formula{Op: op, Args: args} }

func bind(op api.Op, s string, f api.Formula) api.Formula {
	return api.Formula{Op: op, Name: s, Args: []api.Formula{f}}
}

// nots is Not, that many times, of the formula.
func nots(count int, f api.Formula) api.Formula {
	for range count {
		f = of(api.Not, f)
	}
	return f
}

func negs(count int, t api.Term) api.Term {
	for range count {
		t = term(api.TermNeg, t)
	}
	return t
}

// sized is a right formula of that many nodes (1 to 1023), by halves, so that it is as flat as can be.
func sized(size int) api.Formula {
	switch size {
	case 1:
		return of(api.True)
	case 2:
		return of(api.Not, of(api.False))
	}
	return of(api.And, sized((size-1)/2), sized(size-1-(size-1)/2))
}

// sizedTerm is a right term of that many nodes.
func sizedTerm(size int) api.Term {
	switch size {
	case 1:
		return name("x")
	case 2:
		return term(api.TermNeg, number(1))
	}
	return term(api.TermAdd, sizedTerm((size-1)/2), sizedTerm(size-1-(size-1)/2))
}

// seen is a node as the reference meets it: a formula or a term, and the names of the quantifiers above it.
type seen struct {
	formula *api.Formula
	term    *api.Term
	depth   int
	bound   []string
}

// meet goes through the tree's nodes in their order by a stack of those to come, and ends at the first one for which the answer is no.
func meet(first seen, goOn func(n seen) bool) {
	for todo := []seen{first}; len(todo) > 0; {
		n := todo[len(todo)-1]
		todo = todo[:len(todo)-1]
		if !goOn(n) {
			return
		}
		var parts []seen
		if n.term != nil {
			for i := range n.term.Args {
				parts = append(parts, seen{term: &n.term.Args[i], depth: n.depth + 1, bound: n.bound})
			}
		} else {
			bound := n.bound
			if n.formula.Op == api.Ex || n.formula.Op == api.All {
				bound = append(slices.Clone(bound), n.formula.Name)
			}
			for i := range n.formula.Terms {
				parts = append(parts, seen{term: &n.formula.Terms[i], depth: n.depth + 1, bound: bound})
			}
			for i := range n.formula.Args {
				parts = append(parts, seen{formula: &n.formula.Args[i], depth: n.depth + 1, bound: bound})
			}
		}
		slices.Reverse(parts)
		todo = append(todo, parts...)
	}
}

// rows is the document's table of what is well made: the numbers of Terms and Args, whether there are a name and a number, and the least one.
type rows struct {
	terms, args   int
	named, number bool
	least         int64
}

var formulaTable, termTable = formulaRows(), termRows()

func formulaRows() map[api.Op]rows {
	table := map[api.Op]rows{0: {}, 1: {}, 2: {args: 1}, 7: {named: true, args: 1}, 8: {named: true, args: 1}, 15: {terms: 2, number: true, least: 1}}
	for op := api.Op(3); op <= 6; op++ {
		table[op] = rows{args: 2}
	}
	for op := api.Op(9); op <= 14; op++ {
		table[op] = rows{terms: 2}
	}
	return table
}

func termRows() map[api.TermOp]rows {
	return map[api.TermOp]rows{0: {number: true}, 1: {named: true}, 2: {args: 1}, 3: {args: 2}, 4: {args: 2}, 5: {args: 2}}
}

const nameStart = `A-Za-z_\x{391}-\x{3a1}\x{3a3}-\x{3a9}\x{3b1}-\x{3c9}`

// nameText is a name's text, but for the reserved words.
var nameText = regexp.MustCompile(`^[` + nameStart + `][` + nameStart + `0-9\x{2032}\x{2080}-\x{2089}]{0,15}$`)

func isName(s string) bool {
	reserved := []string{"and", "or", "not", "ex", "all", "mod", "true", "false"}
	return nameText.MatchString(s) && !slices.Contains(reserved, s)
}

func noNames() []string {
	return []string{"1", "and", "mod", "x y", "é", "x\xff", "′", strings.Repeat("a", 17), strings.Repeat("b", 100000)}
}

func (r rows) fit(has string, value int64, terms, args int) bool {
	nameFits := has == "" && !r.named || r.named && isName(has)
	numberFits := value == 0 && !r.number || r.number && value >= r.least
	return nameFits && numberFits && terms == r.terms && args == r.args
}

func wellMade(n seen) bool {
	if n.term != nil {
		r, ok := termTable[n.term.Op]
		return ok && r.fit(n.term.Name, n.term.Number, 0, len(n.term.Args))
	}
	r, ok := formulaTable[n.formula.Op]
	return ok && r.fit(n.formula.Name, n.formula.Modulus, len(n.formula.Terms), len(n.formula.Args))
}

// referenceCheck is P6.1 in its own words.
func referenceCheck(first seen) api.Errno {
	count, why := 0, api.OK
	meet(first, func(n seen) bool {
		count++
		switch {
		case count == 501:
			why = api.ErrMany
		case n.depth > 40:
			why = api.ErrDeep
		case !wellMade(n):
			why = api.ErrShape
		}
		return why == api.OK
	})
	return why
}

// names are those that stand in the tree under no quantifier of that name, as DOC.md's section 'Words' has it.
func names(first seen) []string {
	found := map[string]int{}
	meet(first, func(n seen) bool {
		if n.term != nil && n.term.Op == api.TermName && !slices.Contains(n.bound, n.term.Name) {
			found[n.term.Name]++
		}
		return true
	})
	var list []string
	for s := range found {
		list = append(list, s)
	}
	slices.Sort(list)
	return list
}

// answers are those of all calls that measure a formula.
type answers struct {
	size, depth, widest int
	free                []string
	plain               bool
}

func reference(f api.Formula) answers {
	a := answers{plain: true, free: names(seen{formula: &f, depth: 1})}
	meet(seen{formula: &f, depth: 1}, func(n seen) bool {
		a.size++
		a.depth = max(a.depth, n.depth)
		if n.formula != nil {
			a.widest = max(a.widest, len(names(seen{formula: n.formula, depth: 1})))
			a.plain = a.plain && n.formula.Op != api.Ex && n.formula.Op != api.All
		}
		return true
	})
	return a
}

// measure answers what the calls do, all of which must tell the same error.
func measure(t *testing.T, f api.Formula) (answers, api.Errno) {
	t.Helper()
	var a answers
	var errs [5]api.Errno
	a.size, errs[0] = tree.Size(f)
	a.depth, errs[1] = tree.Depth(f)
	a.free, errs[2] = tree.Free(f)
	a.widest, errs[3] = tree.Widest(f)
	a.plain, errs[4] = tree.Plain(f)
	check := tree.Check(f)
	for i, err := range errs {
		if err != check {
			t.Errorf("P6.2: call number %d: error %d, Check: %d, of %.300v", i, err, check, f)
		}
	}
	return a, check
}

func (a answers) equal(b answers) bool {
	return a.size == b.size && a.depth == b.depth && a.widest == b.widest && a.plain == b.plain && slices.Equal(a.free, b.free)
}

// hold holds all calls' answers at the formula against the reference's.
func hold(t *testing.T, f api.Formula) {
	t.Helper()
	want := answers{}
	wantErr := referenceCheck(seen{formula: &f, depth: 1})
	if wantErr == api.OK {
		want = reference(f)
	}
	if got, err := measure(t, f); err != wantErr || !got.equal(want) {
		t.Errorf("%.300v: %+v, error %d; want %+v, error %d", f, got, err, want, wantErr)
	}
	if got := tree.Same(f, f); got != (wantErr == api.OK) {
		t.Errorf("P6.6: Same(f, f) = %v at error %d of %.300v", got, wantErr, f)
	}
}

func holdTerm(t *testing.T, e api.Term) {
	t.Helper()
	var want []string
	wantErr := referenceCheck(seen{term: &e, depth: 1})
	if wantErr == api.OK {
		want = names(seen{term: &e, depth: 1})
	}
	if err := tree.CheckTerm(e); err != wantErr {
		t.Errorf("CheckTerm(%.300v) = %d; want %d", e, err, wantErr)
	}
	if got, err := tree.Names(e); err != wantErr || !slices.Equal(got, want) {
		t.Errorf("Names(%.300v) = %v, %d; want %v, %d", e, got, err, want, wantErr)
	}
}

func TestP6_1EveryFieldOfEveryFormula(t *testing.T) {
	texts := append(noNames(), "", "x", "_1", "α₁", strings.Repeat("α", 16))
	numbers := []int64{math.MinInt64, -1, 0, 1, 2, math.MaxInt64}
	right := 0
	for op := api.Op(-2); op <= 18; op++ {
		for _, s := range texts {
			for _, m := range numbers {
				for terms := range 4 {
					for args := range 4 {
						f := api.Formula{Op: op, Name: s, Modulus: m, Terms: make([]api.Term, terms), Args: make([]api.Formula, args)}
						hold(t, f)
						if tree.Check(f) == api.OK {
							right++
						}
					}
				}
			}
		}
	}
	// 2 constants, Not, 4 connectives, 2 quantifiers of 4 names, 6 comparisons, Cong of 3 moduli.
	if want := 2 + 1 + 4 + 2*4 + 6 + 3; right != want {
		t.Errorf("P6.1: %d formulas are right; want %d", right, want)
	}
	for _, op := range []api.Op{math.MinInt64, math.MaxInt64, 1 << 32, 1<<32 + 1, 256, 99, 16, -1} {
		hold(t, api.Formula{Op: op})
	}
}

func TestP6_1EveryFieldOfEveryTerm(t *testing.T) {
	texts := append(noNames(), "", "x", "_1", "α₁", strings.Repeat("α", 16))
	right := 0
	for op := api.TermOp(-2); op <= 8; op++ {
		for _, s := range texts {
			for _, n := range []int64{math.MinInt64, -1, 0, 1, 2, math.MaxInt64} {
				for args := range 4 {
					e := api.Term{Op: op, Number: n, Name: s, Args: make([]api.Term, args)}
					holdTerm(t, e)
					hold(t, atom(api.Le, e, number(0)))
					hold(t, nots(2, cong(number(0), e, 1)))
					if tree.CheckTerm(e) == api.OK {
						right++
					}
				}
			}
		}
	}
	// 4 numbers, 4 names, Neg, 3 of two parts.
	if want := 4 + 4 + 1 + 3; right != want {
		t.Errorf("P6.1: %d terms are right; want %d", right, want)
	}
	for _, op := range []api.TermOp{math.MinInt64, math.MaxInt64, 1 << 32, 1<<32 + 1, 256, 99, 6, -1} {
		holdTerm(t, api.Term{Op: op})
	}
}

func TestP6_1NilAndEmptyListsAreOne(t *testing.T) {
	for _, f := range []api.Formula{{}, {Terms: []api.Term{}}, {Args: []api.Formula{}}, {Terms: []api.Term{}, Args: []api.Formula{}}} {
		if err := tree.Check(f); err != api.OK {
			t.Errorf("P6.1: %#v: %d", f, err)
		}
		if !tree.Same(f, api.Formula{}) || !tree.Same(api.Formula{}, f) {
			t.Errorf("P6.6: %#v is not the same as the formula of nil lists", f)
		}
	}
	empty := atom(api.Eq, api.Term{Op: api.TermName, Name: "x", Args: []api.Term{}}, number(0))
	if !tree.Same(empty, atom(api.Eq, name("x"), number(0))) {
		t.Error("P6.6: a term of no parts is not the same with a nil list")
	}
}

func TestP6_1Examples(t *testing.T) {
	two := []api.Term{name("x"), number(1)}
	for _, f := range []api.Formula{{Op: 99}, {Op: api.Not}, {Op: api.True, Name: "x"}, {Op: api.Cong, Terms: two}} {
		if err := tree.Check(f); err != api.ErrShape {
			t.Errorf("P6.1: %v: %d; want ErrShape", f, err)
		}
	}
	if err := tree.Check(nots(39, of(api.True))); err != api.OK {
		t.Errorf("P6.1: Not, 39 times: %d", err)
	}
	if err := tree.Check(nots(40, of(api.True))); err != api.ErrDeep {
		t.Errorf("P6.1: Not, 40 times: %d", err)
	}
	if err := tree.CheckTerm(number(-1)); err != api.ErrShape {
		t.Errorf("P6.1: the number -1: %d", err)
	}
	part := sized(300)
	if size, err := tree.Size(part); size != 300 || err != api.OK {
		t.Fatalf("P6.3: the part has %d nodes, error %d", size, err)
	}
	if err := tree.Check(of(api.And, part, part)); err != api.ErrMany {
		t.Errorf("P6.1: And of a formula of 300 nodes and itself: %d", err)
	}
}

func TestP6_1Bounds(t *testing.T) {
	for size := 1; size <= 600; size++ {
		want := api.OK
		if size > 500 {
			want = api.ErrMany
		}
		if err := tree.Check(sized(size)); err != want {
			t.Errorf("P6.1: formula of %d nodes: %d; want %d", size, err, want)
		}
		if err := tree.CheckTerm(sizedTerm(size)); err != want {
			t.Errorf("P6.1: term of %d nodes: %d; want %d", size, err, want)
		}
		if size >= 3 {
			hold(t, atom(api.Ne, number(0), sizedTerm(size-2)))
		}
	}
	for depth := 1; depth <= 60; depth++ {
		want := api.OK
		if depth > 40 {
			want = api.ErrDeep
		}
		if err := tree.CheckTerm(negs(depth-1, name("x"))); err != want {
			t.Errorf("P6.1: term of depth %d: %d; want %d", depth, err, want)
		}
		for inTerms := range depth {
			// That many of the depths lie within a term.
			f := nots(depth-1, of(api.False))
			if inTerms > 0 {
				f = nots(depth-inTerms-1, atom(api.Gt, number(1), negs(inTerms-1, name("x"))))
			}
			if err := tree.Check(f); err != want {
				t.Errorf("P6.1: formula of depth %d, %d of these in a term: %d; want %d", depth, inTerms, err, want)
			}
			hold(t, f)
		}
	}
}

// TestP6_1FirstNode: the first node tells, and of one node ErrMany ahead of ErrDeep ahead of ErrShape.
func TestP6_1FirstNode(t *testing.T) {
	wrong := api.Formula{Op: 99}
	deep := nots(45, of(api.True))
	many := sized(700)
	for _, c := range []struct {
		what string
		f    api.Formula
		want api.Errno
	}{
		{"a wrong part ahead of a deep one", of(api.And, wrong, deep), api.ErrShape},
		{"a deep part ahead of a wrong one", of(api.And, deep, wrong), api.ErrDeep},
		{"a wrong part ahead of many", of(api.And, wrong, many), api.ErrShape},
		{"many ahead of a wrong part", of(api.And, many, wrong), api.ErrMany},
		{"a deep part ahead of many", of(api.Or, deep, many), api.ErrDeep},
		{"many ahead of a deep part", of(api.Or, many, deep), api.ErrMany},
		{"the node 501 is wrong", of(api.And, sized(499), wrong), api.ErrMany},
		{"the node 500 is wrong", of(api.And, sized(498), wrong), api.ErrShape},
		{"the node at the depth 41 is wrong", nots(40, wrong), api.ErrDeep},
		{"the node at the depth 40 is wrong", nots(39, wrong), api.ErrShape},
		{"the node 501 lies at the depth 41", of(api.And, sized(460), nots(40, wrong)), api.ErrMany},
		{"the node 500 lies at the depth 41", of(api.And, sized(459), nots(40, wrong)), api.ErrDeep},
		{"a wrong node above a deep one", api.Formula{Op: api.True, Args: []api.Formula{deep}}, api.ErrShape},
		{"a wrong node above many", api.Formula{Op: 99, Args: []api.Formula{many, many}}, api.ErrShape},
		{"a wrong term under a node that has parts too", api.Formula{Op: api.Eq, Terms: []api.Term{number(-1), negs(50, name("x"))}, Args: []api.Formula{deep}}, api.ErrShape},
		{"the first term wrong, the second deep", atom(api.Lt, name("1"), negs(50, name("x"))), api.ErrShape},
		{"the first term deep, the second wrong", atom(api.Lt, negs(50, name("x")), name("1")), api.ErrDeep},
		{"the first term of many nodes, the second wrong", atom(api.Lt, sizedTerm(500), name("1")), api.ErrMany},
		{"a term's wrong part ahead of its deep one", atom(api.Le, term(api.TermMul, name(""), negs(50, name("x"))), number(0)), api.ErrShape},
		{"a term's deep part ahead of its wrong one", atom(api.Le, term(api.TermMul, negs(50, name("x")), name("")), number(0)), api.ErrDeep},
	} {
		if err := tree.Check(c.f); err != c.want {
			t.Errorf("P6.1: %s: %d; want %d", c.what, err, c.want)
		}
		hold(t, c.f)
	}
	for _, c := range []struct {
		what string
		e    api.Term
		want api.Errno
	}{
		{"the node 501 is wrong", term(api.TermSub, sizedTerm(499), number(-1)), api.ErrMany},
		{"the node 500 is wrong", term(api.TermSub, sizedTerm(498), number(-1)), api.ErrShape},
		{"the node at the depth 41 is wrong", negs(40, number(-1)), api.ErrDeep},
		{"the node at the depth 40 is wrong", negs(39, number(-1)), api.ErrShape},
		{"the node 501 lies at the depth 41", term(api.TermAdd, sizedTerm(460), negs(40, number(-1))), api.ErrMany},
		{"a wrong node above a deep one", api.Term{Op: api.TermNumber, Args: []api.Term{negs(60, name("x"))}}, api.ErrShape},
	} {
		if err := tree.CheckTerm(c.e); err != c.want {
			t.Errorf("P6.1: term: %s: %d; want %d", c.what, err, c.want)
		}
		holdTerm(t, c.e)
	}
}

// TestP6_1LooksAtFewNodes: trees that would take forever, if more than MaxNodes + 1 nodes were looked at.
func TestP6_1LooksAtFewNodes(t *testing.T) {
	great := of(api.True)
	for range 39 {
		great = of(api.Iff, great, great)
	}
	greatTerm := name("x")
	for range 37 {
		greatTerm = term(api.TermAdd, greatTerm, greatTerm)
	}
	loop := of(api.And, api.Formula{}, api.Formula{})
	loop.Args[0], loop.Args[1] = loop, loop
	late := of(api.And, of(api.True), api.Formula{})
	late.Args[1] = late
	loopTerm := term(api.TermMul, api.Term{}, api.Term{})
	loopTerm.Args[0], loopTerm.Args[1] = loopTerm, loopTerm
	for _, c := range []struct {
		f    api.Formula
		want api.Errno
	}{
		{great, api.ErrMany},
		{atom(api.Ge, greatTerm, greatTerm), api.ErrMany},
		{loop, api.ErrDeep},
		{late, api.ErrDeep},
		{of(api.Or, sized(490), loop), api.ErrMany},
		{atom(api.Eq, loopTerm, loopTerm), api.ErrDeep},
		{atom(api.Eq, sizedTerm(490), loopTerm), api.ErrMany},
		{api.Formula{Op: api.Not, Args: []api.Formula{loop, loop}}, api.ErrShape},
		{of(api.And, make([]api.Formula, 1000000)...), api.ErrShape},
		{api.Formula{Op: api.Eq, Terms: make([]api.Term, 1000000)}, api.ErrShape},
	} {
		if _, err := measure(t, c.f); err != c.want {
			t.Errorf("P6.1: %d; want %d", err, c.want)
		}
		if tree.Same(c.f, c.f) || tree.Same(c.f, api.Formula{}) || tree.Same(api.Formula{}, c.f) {
			t.Error("P6.6: a formula that is not right is the same as one")
		}
	}
	if err := tree.CheckTerm(greatTerm); err != api.ErrMany {
		t.Errorf("P6.1: great term: %d", err)
	}
	if got, err := tree.Names(loopTerm); len(got) != 0 || err != api.ErrDeep {
		t.Errorf("P6.2: Names of a loop: %v, %d", got, err)
	}
}

func TestP6_3Examples(t *testing.T) {
	x, y, z := name("x"), name("y"), name("z")
	for _, c := range []struct {
		f    api.Formula
		want answers
	}{
		{atom(api.Le, x, number(1)), answers{size: 3, depth: 2, free: []string{"x"}, widest: 1, plain: true}},
		{bind(api.Ex, "x", of(api.And, atom(api.Eq, x, y), atom(api.Eq, x, z))), answers{size: 8, depth: 4, free: []string{"y", "z"}, widest: 3}},
		{bind(api.Ex, "x", atom(api.Eq, y, number(0))), answers{size: 4, depth: 3, free: []string{"y"}, widest: 1}},
		{of(api.And, atom(api.Eq, x, number(1)), bind(api.Ex, "x", atom(api.Eq, x, number(2)))), answers{size: 8, depth: 4, free: []string{"x"}, widest: 1}},
		{of(api.False), answers{size: 1, depth: 1, plain: true}},
		{bind(api.All, "x", of(api.True)), answers{size: 2, depth: 2}},
		{bind(api.All, "x", bind(api.Ex, "x", cong(x, x, 3))), answers{size: 5, depth: 4, widest: 1}},
		{bind(api.Ex, "x", bind(api.All, "y", atom(api.Lt, y, term(api.TermAdd, x, negs(1, z))))), answers{size: 8, depth: 6, free: []string{"z"}, widest: 3}},
		{atom(api.Ne, term(api.TermMul, name("α"), name("_")), term(api.TermSub, name("a"), name("Z"))), answers{size: 7, depth: 3, free: []string{"Z", "_", "a", "α"}, widest: 4, plain: true}},
		// The widest is a part of the second part, not the formula itself.
		{of(api.Iff, atom(api.Gt, x, y), bind(api.All, "u", bind(api.All, "v", bind(api.All, "w", atom(api.Ge, term(api.TermAdd, name("u"), name("v")), term(api.TermAdd, name("w"), x)))))), answers{size: 14, depth: 7, free: []string{"x", "y"}, widest: 4}},
		// And here it is the whole, wider than each part.
		{of(api.Implies, atom(api.Gt, x, y), atom(api.Gt, name("u"), z)), answers{size: 7, depth: 3, free: []string{"u", "x", "y", "z"}, widest: 4, plain: true}},
	} {
		if got, err := measure(t, c.f); err != api.OK || !got.equal(c.want) {
			t.Errorf("P6.3 to P6.5: %v: %+v, %d; want %+v", c.f, got, err, c.want)
		}
		hold(t, c.f)
	}
}

func TestP6_3Names(t *testing.T) {
	e := term(api.TermAdd, term(api.TermMul, name("y"), name("b")), term(api.TermSub, negs(3, name("y")), term(api.TermAdd, number(7), name("B"))))
	if got, err := tree.Names(e); err != api.OK || !slices.Equal(got, []string{"B", "b", "y"}) {
		t.Errorf("P6.3: %v, %d", got, err)
	}
	if got, err := tree.Names(number(math.MaxInt64)); err != api.OK || len(got) != 0 {
		t.Errorf("P6.3: a number: %v, %d", got, err)
	}
}

// TestP6_3ManyNames: a quarter of the nodes, all different, in falling order.
func TestP6_3ManyNames(t *testing.T) {
	var want []string
	for i := range 'Z' - 'A' + 1 {
		for j := range 10 {
			want = append(want, string([]rune{'A' + i, '0' + rune(j)}))
		}
	}
	want = want[:250]
	var grow func(list []string) api.Term
	grow = func(list []string) api.Term {
		if len(list) == 1 {
			return name(list[0])
		}
		half := len(list) / 2
		return term(api.TermAdd, grow(list[half:]), grow(list[:half]))
	}
	e := grow(want)
	if got, err := tree.Names(e); err != api.OK || !slices.Equal(got, want) {
		t.Errorf("P6.3: %v, %d", got, err)
	}
	// An atom and its other term make it 501 nodes: too many.
	if got, err := tree.Free(atom(api.Eq, e, number(0))); err != api.ErrMany || len(got) != 0 {
		t.Errorf("P6.2: %v, %d", got, err)
	}
	if got, err := tree.Free(atom(api.Eq, grow(want[:249]), number(0))); err != api.OK || !slices.Equal(got, want[:249]) {
		t.Errorf("P6.3: %v, %d", got, err)
	}
}

func TestP6_5Plain(t *testing.T) {
	at := atom(api.Eq, name("x"), name("y"))
	for op := range api.Op(16) {
		f := api.Formula{Op: op}
		r := formulaTable[op]
		if r.named {
			f.Name = "x"
		}
		f.Modulus = r.least
		f.Terms = slices.Repeat([]api.Term{name("x")}, r.terms)
		f.Args = slices.Repeat([]api.Formula{at}, r.args)
		want := op != 7 && op != 8
		for _, g := range []api.Formula{f, nots(5, f), of(api.Or, f, at), of(api.Or, at, f)} {
			if got, err := tree.Plain(g); got != want || err != api.OK {
				t.Errorf("P6.5: Plain(%v) = %v, %d", g, got, err)
			}
		}
	}
	// A term's Op counts on its own: none is a quantifier, whatever its number.
	for op := range api.TermOp(10) {
		hold(t, atom(api.Eq, api.Term{Op: op}, number(0)))
	}
}

func TestP6_6Same(t *testing.T) {
	x, y := name("x"), name("y")
	list := []api.Formula{
		of(api.True), of(api.False), of(api.Not, of(api.True)), of(api.Not, of(api.False)),
		of(api.And, of(api.True), of(api.False)), of(api.And, of(api.False), of(api.True)), of(api.Or, of(api.True), of(api.False)),
		bind(api.Ex, "x", of(api.True)), bind(api.Ex, "y", of(api.True)), bind(api.All, "x", of(api.True)), bind(api.Ex, "x", of(api.False)),
		atom(api.Eq, x, y), atom(api.Eq, y, x), atom(api.Ne, x, y), atom(api.Eq, x, number(0)), atom(api.Eq, x, number(1)), atom(api.Eq, number(0), x),
		cong(x, y, 1), cong(x, y, 2), cong(y, x, 2),
		atom(api.Eq, negs(1, x), y), atom(api.Eq, x, negs(1, y)),
		atom(api.Le, term(api.TermAdd, x, term(api.TermAdd, x, y)), y), atom(api.Le, term(api.TermAdd, term(api.TermAdd, x, x), y), y),
		atom(api.Le, term(api.TermAdd, x, x), term(api.TermAdd, y, y)), atom(api.Le, term(api.TermSub, x, x), term(api.TermAdd, y, y)),
		of(api.Not, of(api.And, of(api.True), of(api.True))), of(api.And, of(api.Not, of(api.True)), of(api.True)), of(api.And, of(api.True), of(api.Not, of(api.True))),
		// An atom of terms and a connective of formulas with like numbers.
		atom(api.Le, number(0), number(0)), of(api.And, of(0), of(0)), of(api.Or, of(0), of(0)), of(api.Implies, of(0), of(0)),
	}
	for i, f := range list {
		for j, g := range list {
			if got := tree.Same(f, g); got != (i == j) {
				t.Errorf("P6.6: Same(%v, %v) = %v", f, g, got)
			}
		}
		if !tree.Same(f, copied(f)) {
			t.Errorf("P6.6: %v is not the same as its copy", f)
		}
	}
	wrong := []api.Formula{{Op: 99}, {Op: api.Not}, {Op: api.True, Name: "x"}, nots(40, of(api.True)), sized(501), cong(x, y, 0), cong(x, y, -2), atom(api.Eq, number(-1), x), atom(api.Eq, name("and"), x)}
	for _, f := range wrong {
		for _, g := range append(wrong, list...) {
			if tree.Same(f, g) || tree.Same(g, f) {
				t.Errorf("P6.6: %.100v and %.100v are the same, but one is not right", f, g)
			}
		}
	}
}

// copied answers a copy that shares no memory with the formula; its lists are never nil, but those of the formula may be.
func copied(f api.Formula) api.Formula {
	g := api.Formula{Op: f.Op, Name: strings.Clone(f.Name), Modulus: f.Modulus, Terms: []api.Term{}, Args: []api.Formula{}}
	for _, e := range f.Terms {
		g.Terms = append(g.Terms, copiedTerm(e))
	}
	for _, part := range f.Args {
		g.Args = append(g.Args, copied(part))
	}
	return g
}

func copiedTerm(e api.Term) api.Term {
	c := api.Term{Op: e.Op, Number: e.Number, Name: strings.Clone(e.Name), Args: []api.Term{}}
	for _, part := range e.Args {
		c.Args = append(c.Args, copiedTerm(part))
	}
	return c
}

// maker makes trees by chance, with a seed of its own, so that each run has the same.
type maker struct{ *rand.Rand }

func newMaker(seed uint64) maker { return maker{rand.New(rand.NewPCG(seed, 6))} }

func (m maker) name() string {
	list := []string{"x", "y", "z", "x1", "X", "_", "α", "α₁", "ω′", "u", "v", "w"}
	return list[m.IntN(len(list))]
}

func (m maker) term(depth int) api.Term {
	op := api.TermOp(m.IntN(6))
	if depth <= 1 {
		op = api.TermOp(m.IntN(2))
	}
	switch op {
	case api.TermNumber:
		return number([]int64{0, 1, 7, math.MaxInt64}[m.IntN(4)])
	case api.TermName:
		return name(m.name())
	case api.TermNeg:
		return term(op, m.term(depth-1))
	}
	return term(op, m.term(depth-1), m.term(depth-1))
}

// formula answers a right formula but for its size: of the depth asked for, or less.
func (m maker) formula(depth int) api.Formula {
	op := api.Op(m.IntN(16))
	if m.IntN(3) > 0 {
		op = api.Op(2 + m.IntN(7))
	}
	if depth <= 1 {
		op = api.Op(m.IntN(2))
	}
	r := formulaTable[op]
	f := api.Formula{Op: op, Modulus: r.least * (1 + m.Int64N(5))}
	if r.named {
		f.Name = m.name()
	}
	for range r.terms {
		f.Terms = append(f.Terms, m.term(min(depth-1, 4)))
	}
	for range r.args {
		f.Args = append(f.Args, m.formula(depth-1))
	}
	return f
}

// change answers the formula with one field of one node changed, mostly to something wrong.
func (m maker) change(f api.Formula) api.Formula {
	g := copied(f)
	var all []seen
	meet(seen{formula: &g, depth: 1}, func(n seen) bool {
		all = append(all, n)
		return true
	})
	n := all[m.IntN(len(all))]
	if n.term != nil {
		m.changeTerm(n.term)
		return g
	}
	switch m.IntN(5) {
	case 0:
		n.formula.Op = api.Op(m.IntN(20) - 2)
	case 1:
		n.formula.Name = []string{"", "x", "q", "1", "and"}[m.IntN(5)]
	case 2:
		n.formula.Modulus = m.Int64N(5) - 1
	case 3:
		n.formula.Terms = append(n.formula.Terms, number(0))
	case 4:
		n.formula.Args = append(n.formula.Args, of(api.True))
	}
	return g
}

func (m maker) changeTerm(e *api.Term) {
	switch m.IntN(4) {
	case 0:
		e.Op = api.TermOp(m.IntN(10) - 2)
	case 1:
		e.Name = []string{"", "x", "q", "1", "and"}[m.IntN(5)]
	case 2:
		e.Number = m.Int64N(5) - 1
	case 3:
		e.Args = append(e.Args, number(0))
	}
}

func TestP6TreesByChance(t *testing.T) {
	m := newMaker(1)
	met := map[api.Errno]int{}
	for range 3000 {
		f := m.formula(1 + m.IntN(12))
		switch m.IntN(10) {
		case 0:
			f = nots(25+m.IntN(15), f)
		case 1:
			f = of(api.Iff, sized(400+m.IntN(100)), f)
		}
		hold(t, f)
		met[tree.Check(f)]++
		g := m.change(f)
		hold(t, g)
		met[tree.Check(g)]++
		want := tree.Check(f) == api.OK && tree.Check(g) == api.OK && reflect.DeepEqual(copied(f), g)
		if got := tree.Same(f, g); got != want || tree.Same(g, f) != want {
			t.Errorf("P6.6: Same(%v, %v) = %v", f, g, got)
		}
		e := m.term(1 + m.IntN(9))
		holdTerm(t, e)
		m.changeTerm(&e)
		holdTerm(t, e)
	}
	for _, err := range []api.Errno{api.OK, api.ErrMany, api.ErrDeep, api.ErrShape} {
		if met[err] < 50 {
			t.Errorf("the trees met error %d only %d times", err, met[err])
		}
	}
}

// TestP6_6ChangedFields: formulas that differ in one field and are both right are met often enough, and told apart.
func TestP6_6ChangedFields(t *testing.T) {
	m := newMaker(2)
	apart := 0
	for range 3000 {
		f := m.formula(1 + m.IntN(5))
		g := m.change(f)
		if tree.Check(f) != api.OK || tree.Check(g) != api.OK {
			continue
		}
		same := reflect.DeepEqual(copied(f), g)
		if tree.Same(f, g) != same {
			t.Errorf("P6.6: Same(%v, %v) is not %v", f, g, same)
		}
		if !same {
			apart++
		}
	}
	if apart < 100 {
		t.Errorf("only %d pairs were right and not the same", apart)
	}
}

// roomy answers a copy of the formula whose lists have spare room with something in it.
func roomy(f api.Formula) api.Formula {
	g := f
	g.Args = nil
	for _, part := range f.Args {
		g.Args = append(g.Args, roomy(part))
	}
	g.Args = append(g.Args, api.Formula{Op: 77, Name: "spare"})[:len(f.Args)]
	g.Terms = roomyTerms(f.Terms)
	return g
}

func roomyTerms(list []api.Term) []api.Term {
	var terms []api.Term
	for _, e := range list {
		c := e
		c.Args = roomyTerms(e.Args)
		terms = append(terms, c)
	}
	return append(terms, api.Term{Op: 77, Name: "spare"})[:len(list)]
}

// unspared answers whether the lists of the formula still have what roomy put behind them.
func unspared(f api.Formula) bool {
	spare := f.Args[:len(f.Args)+1][len(f.Args)]
	if spare.Op != 77 || spare.Name != "spare" || !unsparedTerms(f.Terms) {
		return false
	}
	return !slices.ContainsFunc(f.Args, func(part api.Formula) bool { return !unspared(part) })
}

func unsparedTerms(list []api.Term) bool {
	spare := list[:len(list)+1][len(list)]
	if spare.Op != 77 || spare.Name != "spare" {
		return false
	}
	return !slices.ContainsFunc(list, func(e api.Term) bool { return !unsparedTerms(e.Args) })
}

func TestRule3ArgumentsStay(t *testing.T) {
	m := newMaker(3)
	for range 300 {
		f := roomy(m.formula(6))
		before := copied(f)
		e := term(api.TermAdd, roomyTerms([]api.Term{m.term(5), m.term(5)})...)
		termBefore := copiedTerm(e)
		measure(t, f)
		tree.Same(f, f)
		if _, err := tree.Names(e); err != api.OK {
			t.Fatalf("Names: %d", err)
		}
		if !reflect.DeepEqual(copied(f), before) || !unspared(f) {
			t.Fatalf("rule 3: a formula has changed: %v", f)
		}
		if !reflect.DeepEqual(copiedTerm(e), termBefore) || !unsparedTerms(e.Args) {
			t.Fatalf("rule 3: a term has changed: %v", e)
		}
	}
}

// TestRule3AnswersAreNew: what is written into an answer and its spare room is not seen in the next one, and its texts are copies.
func TestRule3AnswersAreNew(t *testing.T) {
	text := "xyz"
	e := term(api.TermAdd, name(text[:1]), term(api.TermMul, name(text[1:2]), name(text[1:2])))
	f := bind(api.Ex, "y", atom(api.Lt, e, name(text[2:])))
	calls := []struct {
		call func() ([]string, api.Errno)
		want []string
	}{
		{func() ([]string, api.Errno) { return tree.Names(e) }, []string{"x", "y"}},
		{func() ([]string, api.Errno) { return tree.Free(f) }, []string{"x", "z"}},
	}
	for i, c := range calls {
		for range 2 {
			got, err := c.call()
			if err != api.OK || !slices.Equal(got, c.want) {
				t.Fatalf("rule 3: call %d: %v, %d; want %v", i, got, err, c.want)
			}
			for _, s := range got {
				for at := range text {
					if unsafe.StringData(s) == unsafe.StringData(text[at:]) {
						t.Errorf("rule 3: call %d: %q shares the argument's memory", i, s)
					}
				}
			}
			full := got[:cap(got)]
			for j := range full {
				full[j] = "spoilt"
			}
		}
	}
}

// FuzzCalls makes trees out of bytes, so that the fuzzer finds its way to odd ones: all calls' answers are held against the reference's.
func FuzzCalls(f *testing.F) {
	f.Add([]byte{7, 1, 3, 13, 1, 1, 1, 2, 13, 1, 1, 1, 3})
	f.Add([]byte{15, 3, 0, 5, 1, 1})
	f.Fuzz(func(t *testing.T, data []byte) {
		if len(data) > 2000 {
			return
		}
		r := reader{data}
		a, b := r.formula(1), r.formula(1)
		hold(t, a)
		hold(t, b)
		want := tree.Check(a) == api.OK && tree.Check(b) == api.OK && reflect.DeepEqual(copied(a), copied(b))
		if tree.Same(a, b) != want {
			t.Errorf("P6.6: Same(%v, %v) is not %v", a, b, want)
		}
		holdTerm(t, r.term(1))
	})
}

// reader takes a tree's fields from bytes; behind their end there are zeros.
type reader struct{ data []byte }

func (r *reader) next(below int) int {
	if len(r.data) == 0 {
		return 0
	}
	b := r.data[0]
	r.data = r.data[1:]
	return int(b) % below
}

func (r *reader) text() string {
	return []string{"x", "y", "z", "α₁", "", "and"}[r.next(6)]
}

func (r *reader) formula(depth int) api.Formula {
	f := api.Formula{Op: api.Op(r.next(17))}
	row := formulaTable[f.Op]
	if row.named || r.next(64) == 63 {
		f.Name = r.text()
	}
	if row.number || r.next(64) == 63 {
		f.Modulus = int64(r.next(8)) - 1
	}
	if depth > 45 {
		return f
	}
	for range row.terms {
		f.Terms = append(f.Terms, r.term(depth+1))
	}
	for range row.args {
		f.Args = append(f.Args, r.formula(depth+1))
	}
	return f
}

func (r *reader) term(depth int) api.Term {
	e := api.Term{Op: api.TermOp(r.next(7))}
	row := termTable[e.Op]
	if row.named || r.next(64) == 63 {
		e.Name = r.text()
	}
	if row.number || r.next(64) == 63 {
		e.Number = int64(r.next(8)) - 1
	}
	if depth > 45 {
		return e
	}
	for range row.args {
		e.Args = append(e.Args, r.term(depth+1))
	}
	return e
}
