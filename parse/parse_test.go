package parse_test

import (
	"fmt"
	"math"
	"math/rand/v2"
	"slices"
	"strings"
	"testing"
	"unicode/utf8"
	"unsafe"

	"tabard/api"
	"tabard/lex"
	"tabard/parse"
	"tabard/tree"
)

func num(n int64) api.Term { return api.Term{Op: api.TermNumber, Number: n} }

func name(s string) api.Term { return api.Term{Op: api.TermName, Name: s} }

func term(op api.TermOp, args ...api.Term) api.Term { return api.Term{Op: op, Args: args} }

func atom(op api.Op, a, b api.Term) api.Formula {
	return api.Formula{Op: op, Terms: []api.Term{a, b}}
}

func cong(a, b api.Term, modulus int64) api.Formula {
	return api.Formula{Op: api.Cong, Modulus: modulus, Terms: []api.Term{a, b}}
}

func of(op api.Op, args ...api.Formula) api.Formula { return api.Formula{Op: op, Args: args} }

func bind(op api.Op, s string, f api.Formula) api.Formula {
	return api.Formula{Op: op, Name: s, Args: []api.Formula{f}}
}

func fault(why api.Errno, at, char int) api.Fault {
	return api.Fault{Why: why, At: api.Place{Byte: at, Char: char}}
}

// tell writes all fields of the tree down, so that nil and empty lists are one.
func tell(f api.Formula) string {
	text := fmt.Sprintf("{%d %q %d", f.Op, f.Name, f.Modulus)
	for _, t := range f.Terms {
		text += " " + tellTerm(t)
	}
	for _, part := range f.Args {
		text += " " + tell(part)
	}
	return text + "}"
}

func tellTerm(t api.Term) string {
	text := fmt.Sprintf("<%d %d %q", t.Op, t.Number, t.Name)
	for _, part := range t.Args {
		text += " " + tellTerm(part)
	}
	return text + ">"
}

func check(t *testing.T, s string, want api.Formula, wantFault api.Fault) {
	t.Helper()
	if got, w := parse.Formula(s); w != wantFault || tell(got) != tell(want) {
		t.Errorf("Formula(%.200q) = %.500s, %v; want %.500s, %v", s, tell(got), w, tell(want), wantFault)
	}
}

func checkTerm(t *testing.T, s string, want api.Term, wantFault api.Fault) {
	t.Helper()
	if got, w := parse.Term(s); w != wantFault || tellTerm(got) != tellTerm(want) {
		t.Errorf("Term(%.200q) = %.500s, %v; want %.500s, %v", s, tellTerm(got), w, tellTerm(want), wantFault)
	}
}

// rule is one choice of a rule of the document's grammar, with the repetitions written as rules that begin with themselves.
type rule struct {
	left  string
	right []string
}

const grammar = `
formula = implies | formula <-> implies
implies = or | or -> implies
or      = and | or "or" and
and     = unary | and "and" unary
unary   = not unary | binder names . unary | ( formula ) | true | false | atom
binder  = ex | all
names   = name | names , name
atom    = term relation term | term ~ term mod number
relation = <= | < | >= | > | "=" | !=
term    = product | term + product | term - product
product = factor | product * factor
factor  = number | name | [ term ] | - factor
`

func rules() []rule {
	var all []rule
	for _, line := range strings.Split(strings.TrimSpace(grammar), "\n") {
		left, choices, _ := strings.Cut(line, " = ")
		for _, choice := range strings.Split(choices, " | ") {
			all = append(all, rule{strings.TrimSpace(left), strings.Fields(choice)})
		}
	}
	return all
}

// item is a rule of which the parts ahead of the dot were met from the word number from on.
type item struct {
	rule, dot, from int
}

// oracle tells which words go on from which, by Earley's sets of all rules that may be under way: it is no recursion by the rules.
type oracle struct {
	rules  []rule
	isRule map[string]bool
}

func newOracle() oracle {
	o := oracle{rules: rules(), isRule: map[string]bool{}}
	for _, r := range o.rules {
		o.isRule[r.left] = true
	}
	return o
}

// next is the part behind the item's dot; empty at its end.
func (o oracle) next(i item) string {
	if right := o.rules[i.rule].right; i.dot < len(right) {
		return right[i.dot]
	}
	return ""
}

// close adds to the newest of the sets all that follows from it.
func (o oracle) close(sets [][]item, set []item) [][]item {
	at := len(sets)
	sets = append(slices.Clip(sets), nil)
	add := func(i item) {
		if !slices.Contains(set, i) {
			set = append(set, i)
		}
	}
	for k := 0; k < len(set); k++ {
		next := o.next(set[k])
		if next == "" {
			for _, i := range sets[set[k].from] {
				if o.next(i) == o.rules[set[k].rule].left {
					add(item{i.rule, i.dot + 1, i.from})
				}
			}
		} else if o.isRule[next] {
			for n, r := range o.rules {
				if r.left == next {
					add(item{n, 0, at})
				}
			}
		}
	}
	sets[at] = set
	return sets
}

// begin is the sets ahead of all words of a formula, or of a term.
func (o oracle) begin(start string) [][]item {
	var set []item
	for n, r := range o.rules {
		if r.left == start {
			set = append(set, item{n, 0, 0})
		}
	}
	return o.close(nil, set)
}

// quoted is the grammar's part for a word.
func quoted(w api.Word) string {
	switch {
	case w.Kind == api.WordName:
		return "name"
	case w.Kind == api.WordNumber:
		return "number"
	case w.Text == "or" || w.Text == "and" || w.Text == "=":
		return `"` + w.Text + `"`
	}
	return w.Text
}

// after is the sets with the word behind the others; nil, if nothing goes on with it.
func (o oracle) after(sets [][]item, w api.Word) [][]item {
	var set []item
	for _, i := range sets[len(sets)-1] {
		if o.next(i) == quoted(w) {
			set = append(set, item{i.rule, i.dot + 1, i.from})
		}
	}
	if len(set) == 0 {
		return nil
	}
	return o.close(sets, set)
}

// ends tells whether the words make up the whole.
func (o oracle) ends(sets [][]item, start string) bool {
	return slices.ContainsFunc(sets[len(sets)-1], func(i item) bool {
		return i.from == 0 && o.next(i) == "" && o.rules[i.rule].left == start
	})
}

// faultOf is what is wrong with the words of a text, its end at the place, but for trees that are too great.
func (o oracle) faultOf(words []api.Word, start string, end api.Place) api.Fault {
	sets := o.begin(start)
	for n, w := range words {
		sets = o.after(sets, w)
		if sets == nil {
			return api.Fault{Why: api.ErrGram, At: w.At}
		}
		if n > 0 && words[n-1].Text == "mod" && w.Number == 0 {
			return api.Fault{Why: api.ErrMod, At: w.At}
		}
	}
	if !o.ends(sets, start) {
		return api.Fault{Why: api.ErrGram, At: end}
	}
	return api.Fault{}
}

// outside lists the places of those words that are one of the signs and stand in no brackets.
func outside(words []api.Word, signs ...string) []int {
	var found []int
	level := 0
	for n, w := range words {
		if w.Kind != api.WordSign {
			continue
		}
		switch w.Text {
		case "(", "[":
			level++
		case ")", "]":
			level--
		}
		if level == 0 && slices.Contains(signs, w.Text) {
			found = append(found, n)
		}
	}
	return found
}

// split is the tree of words without a fault, by the sign that binds the least.
func split(words []api.Word) api.Formula {
	for _, c := range []struct {
		sign string
		op   api.Op
	}{{"<->", api.Iff}, {"->", api.Implies}, {"or", api.Or}, {"and", api.And}} {
		if found := outside(words, c.sign); len(found) > 0 {
			at := found[len(found)-1]
			if c.op == api.Implies {
				at = found[0]
			}
			return of(c.op, split(words[:at]), split(words[at+1:]))
		}
	}
	if words[0].Kind == api.WordSign {
		switch words[0].Text {
		case "not":
			return of(api.Not, split(words[1:]))
		case "ex", "all":
			op := map[string]api.Op{"ex": api.Ex, "all": api.All}[words[0].Text]
			dot := outside(words, ".")[0]
			f := split(words[dot+1:])
			for n := dot - 1; n > 0; n -= 2 {
				f = bind(op, words[n].Text, f)
			}
			return f
		case "(":
			return split(words[1 : len(words)-1])
		case "true":
			return of(api.True)
		case "false":
			return of(api.False)
		}
	}
	relations := map[string]api.Op{"<=": api.Le, "<": api.Lt, ">=": api.Ge, ">": api.Gt, "=": api.Eq, "!=": api.Ne}
	for sign, op := range relations {
		if found := outside(words, sign); len(found) > 0 {
			return atom(op, splitTerm(words[:found[0]]), splitTerm(words[found[0]+1:]))
		}
	}
	at, last := outside(words, "~")[0], len(words)-1
	return cong(splitTerm(words[:at]), splitTerm(words[at+1:last-1]), words[last].Number)
}

func splitTerm(words []api.Word) api.Term {
	for _, signs := range [][]string{{"+", "-"}, {"*"}} {
		found := slices.DeleteFunc(outside(words, signs...), func(n int) bool {
			// A minus behind another sign than a bracket's end stands ahead of a factor.
			return n == 0 || words[n-1].Kind == api.WordSign && words[n-1].Text != "]"
		})
		if len(found) > 0 {
			at := found[len(found)-1]
			op := map[string]api.TermOp{"+": api.TermAdd, "-": api.TermSub, "*": api.TermMul}[words[at].Text]
			return term(op, splitTerm(words[:at]), splitTerm(words[at+1:]))
		}
	}
	switch first := words[0]; {
	case first.Kind == api.WordNumber:
		return num(first.Number)
	case first.Kind == api.WordName:
		return name(first.Text)
	case first.Text == "-":
		return term(api.TermNeg, splitTerm(words[1:]))
	}
	return splitTerm(words[1 : len(words)-1])
}

func end(s string) api.Place { return api.Place{Byte: len(s), Char: utf8.RuneCountInString(s)} }

// hold holds both calls of the text against the oracle and the splitter.
func (o oracle) hold(t *testing.T, s string) {
	t.Helper()
	words, w := lex.Words(s)
	if w != (api.Fault{}) {
		check(t, s, api.Formula{}, w)
		checkTerm(t, s, api.Term{}, w)
		return
	}
	w = o.faultOf(words, "formula", end(s))
	var f api.Formula
	if w.Why == api.OK {
		f = split(words)
		if err := tree.Check(f); err != api.OK {
			f, w = api.Formula{}, fault(err, 0, 0)
		}
	}
	check(t, s, f, w)
	w = o.faultOf(words, "term", end(s))
	var x api.Term
	if w.Why == api.OK {
		x = splitTerm(words)
		if err := tree.CheckTerm(x); err != api.OK {
			x, w = api.Term{}, fault(err, 0, 0)
		}
	}
	checkTerm(t, s, x, w)
}

func TestP7_1Examples(t *testing.T) {
	x, y, z := name("x"), name("y"), name("z")
	is := func(s string, n int64) api.Formula { return atom(api.Eq, name(s), num(n)) }
	for _, c := range []struct {
		text string
		want api.Formula
	}{
		{"x <= 1 and not y = 2 or z > 0", of(api.Or, of(api.And, atom(api.Le, x, num(1)), of(api.Not, is("y", 2))), atom(api.Gt, z, num(0)))},
		{"a = 0 -> b = 0 -> c = 0", of(api.Implies, is("a", 0), of(api.Implies, is("b", 0), is("c", 0)))},
		{"ex x, y. x = y and true", of(api.And, bind(api.Ex, "x", bind(api.Ex, "y", atom(api.Eq, x, y))), of(api.True))},
		{"x - y - 2 * -z ~ 1 mod 3", cong(term(api.TermSub, term(api.TermSub, x, y), term(api.TermMul, num(2), term(api.TermNeg, z))), num(1), 3)},
		{"x <= [y + 1] * 2", atom(api.Le, x, term(api.TermMul, term(api.TermAdd, y, num(1)), num(2)))},
	} {
		check(t, c.text, c.want, api.Fault{})
	}
	for _, s := range []string{"x <= ", "x", "", "(x = 1"} {
		check(t, s, api.Formula{}, fault(api.ErrGram, len(s), len(s)))
	}
	for s, at := range map[string]int{"x = 1 )": 6, "x = = 1": 4, "ex 1. true": 3, "x + (y) = 0": 4, "x = 1 = 2": 6, "x < y < z": 6} {
		check(t, s, api.Formula{}, fault(api.ErrGram, at, at))
	}
	check(t, "x ~ 1 mod 0 )", api.Formula{}, fault(api.ErrMod, 10, 10))
	check(t, "x ~ 1 mod 0", api.Formula{}, fault(api.ErrMod, 10, 10))
	check(t, strings.Repeat("not ", 40)+"true", api.Formula{}, fault(api.ErrDeep, 0, 0))
}

func TestP7_1EachRule(t *testing.T) {
	a, b, c := of(api.True), of(api.False), atom(api.Eq, name("c"), num(0))
	for sign, op := range map[string]api.Op{"<->": api.Iff, "or": api.Or, "and": api.And} {
		check(t, "true "+sign+" false "+sign+" c = 0", of(op, of(op, a, b), c), api.Fault{})
		check(t, "true "+sign+" (false "+sign+" c = 0)", of(op, a, of(op, b, c)), api.Fault{})
	}
	check(t, "true -> false -> c = 0", of(api.Implies, a, of(api.Implies, b, c)), api.Fault{})
	check(t, "(true -> false) -> c = 0", of(api.Implies, of(api.Implies, a, b), c), api.Fault{})
	check(t, "true <-> false -> true or false and not true",
		of(api.Iff, a, of(api.Implies, b, of(api.Or, a, of(api.And, b, of(api.Not, a))))), api.Fault{})
	check(t, "not true and false or true -> false <-> true",
		of(api.Iff, of(api.Implies, of(api.Or, of(api.And, of(api.Not, a), b), a), b), a), api.Fault{})
	check(t, "not not true", of(api.Not, of(api.Not, a)), api.Fault{})
	check(t, "((true))", a, api.Fault{})
	check(t, "all x, y, x. not ex z. true or false",
		of(api.Or, bind(api.All, "x", bind(api.All, "y", bind(api.All, "x", of(api.Not, bind(api.Ex, "z", a))))), b), api.Fault{})
	check(t, "ex x. (true or false)", bind(api.Ex, "x", of(api.Or, a, b)), api.Fault{})
	for sign, op := range map[string]api.Op{"<=": api.Le, "<": api.Lt, ">=": api.Ge, ">": api.Gt, "=": api.Eq, "!=": api.Ne} {
		check(t, "1"+sign+"x+2", atom(op, num(1), term(api.TermAdd, name("x"), num(2))), api.Fault{})
	}
	check(t, "x ~ y + 1 mod 9223372036854775807", cong(name("x"), term(api.TermAdd, name("y"), num(1)), math.MaxInt64), api.Fault{})
	check(t, "x ~ y mod 1", cong(name("x"), name("y"), 1), api.Fault{})
}

func TestP7_1EachRuleOfTerms(t *testing.T) {
	x, one := name("x"), num(1)
	for s, want := range map[string]api.Term{
		"x": x, "1": one, "0": num(0), "9223372036854775807": num(math.MaxInt64), "007": num(7),
		"-x": term(api.TermNeg, x), "-1": term(api.TermNeg, one), "--x": term(api.TermNeg, term(api.TermNeg, x)),
		"x + 1": term(api.TermAdd, x, one), "x - 1": term(api.TermSub, x, one), "x * 1": term(api.TermMul, x, one),
		"x - 1 + x":     term(api.TermAdd, term(api.TermSub, x, one), x),
		"x + 1 - x":     term(api.TermSub, term(api.TermAdd, x, one), x),
		"x - [1 + x]":   term(api.TermSub, x, term(api.TermAdd, one, x)),
		"x * 1 * x":     term(api.TermMul, term(api.TermMul, x, one), x),
		"x * [1 * x]":   term(api.TermMul, x, term(api.TermMul, one, x)),
		"-x * 1":        term(api.TermMul, term(api.TermNeg, x), one),
		"-[x * 1]":      term(api.TermNeg, term(api.TermMul, x, one)),
		"x * -1":        term(api.TermMul, x, term(api.TermNeg, one)),
		"x - -1":        term(api.TermSub, x, term(api.TermNeg, one)),
		"x + 1 * x":     term(api.TermAdd, x, term(api.TermMul, one, x)),
		"[[x]] + [[1]]": term(api.TermAdd, x, one),
		"2 * [x + 1]":   term(api.TermMul, num(2), term(api.TermAdd, x, one)),
	} {
		checkTerm(t, s, want, api.Fault{})
	}
	for s, at := range map[string]int{
		"": 0, "  ": 2, "x +": 3, "x 1": 2, "2x": 1, "(x)": 0, "x = 1": 2, "[x": 2, "[x)": 2, "x]": 1, "*x": 0, "+x": 0, "x * + 1": 4, "[]": 1, "true": 0, "x and": 2, "mod": 0, "x -> 1": 2, "- ": 2,
	} {
		checkTerm(t, s, api.Term{}, fault(api.ErrGram, at, at))
	}
}

func TestP7_1OtherCharacters(t *testing.T) {
	want := of(api.Iff, of(api.Implies, bind(api.All, "α", bind(api.Ex, "β₁", of(api.Not, atom(api.Le, name("α"), term(api.TermMul, num(2), name("β₁")))))),
		of(api.Or, atom(api.Ge, term(api.TermNeg, name("x")), num(0)), of(api.And, atom(api.Ne, name("x"), num(1)), cong(name("x"), num(0), 2)))), of(api.True))
	check(t, "∀α.∃β₁.¬α≤2·β₁→−x≥0∨x≠1∧x≡0mod 2↔true", want, api.Fault{})
	check(t, "all α. ex β₁. not α <= 2 * β₁ -> -x >= 0 or x != 1 and x ~ 0 mod 2 <-> true", want, api.Fault{})
	check(t, "∃α.α≤", api.Formula{}, fault(api.ErrGram, 11, 5))
	check(t, "∃α.α≤ \n\t", api.Formula{}, fault(api.ErrGram, 14, 8))
	check(t, "∃α.α≤≤", api.Formula{}, fault(api.ErrGram, 11, 5))
	check(t, "α≡β mod 0∧", api.Formula{}, fault(api.ErrMod, 12, 8))
	checkTerm(t, "α·", api.Term{}, fault(api.ErrGram, 4, 2))
	checkTerm(t, "α·≤", api.Term{}, fault(api.ErrGram, 4, 2))
}

func TestP7_1WrongWords(t *testing.T) {
	for s, at := range map[string]int{
		"and": 0, "true and": 8, "true and and": 9, "true or -> true": 8, "not": 3, "not or": 4, "()": 1, "(": 1, "(true": 5, "(true]": 5, ")": 0, "true true": 5, "true not true": 5,
		"ex": 2, "ex x": 4, "ex x true": 5, "ex x.": 5, "ex x, . true": 6, "ex x y. true": 5, "ex . true": 3, "ex, x. true": 2, "ex and. true": 3, "ex x. y": 7, "all (x). true": 4,
		"[x = 1]": 3, "(x) = 1": 2, "x = (1)": 4, "x = [1": 6, "x = [1)": 6, "x": 1, "1": 1, "x and y": 2, "x = y z": 6, "x = true": 4, "true = x": 5, "not x": 5,
		"x ~ 1": 5, "x ~ 1 mod": 9, "x ~ 1 mod x": 10, "x ~ 1 mod -1": 10, "x ~ 1 mod [1]": 10, "x ~ 1 mod 2 + 1": 12, "x ~ 1 and": 6, "x ~ 1 ~ 2": 6, "x = 1 mod 2": 6, "x mod 2 = 0": 2, "mod 2": 0, "x ~ mod 2": 4,
		"x <-> y": 2, "x < - > y": 6, "x.": 1, "true.": 4, ", true": 0, "x = 1 <-> <-> true": 10,
	} {
		check(t, s, api.Formula{}, fault(api.ErrGram, at, at))
	}
	check(t, "[x] = 1", atom(api.Eq, name("x"), num(1)), api.Fault{})
}

// The first fault from the left is told: a word that is wrong ahead of the modulus, the modulus ahead of all behind it.
func TestP7_1ZeroModulus(t *testing.T) {
	for s, at := range map[string]int{
		"x ~ 1 mod 000": 10, "x ~ 1 mod 0 and": 10, "(x ~ 1 mod 0": 11, "x ~ 1 mod 0 0": 10, "x ~ 1 mod 0 and y ~ 1 mod 0": 10, "not x ~ 1 mod 0 ]": 14, "true and x ~ 1 mod 0 mod": 19, "x ~ 1 mod 2 or x ~ 1 mod 0": 25,
	} {
		check(t, s, api.Formula{}, fault(api.ErrMod, at, at))
	}
	for s, at := range map[string]int{"x ~ ~ 1 mod 0": 4, "x = 1 mod 0": 6, ") x ~ 1 mod 0": 0, "x ~ 1 2 mod 0": 6, "mod 0": 0, "x ~ mod 0": 4} {
		check(t, s, api.Formula{}, fault(api.ErrGram, at, at))
	}
	checkTerm(t, "x ~ 1 mod 0", api.Term{}, fault(api.ErrGram, 2, 2))
}

// Faults of words come first, wherever a word is wrong or the modulus is 0.
func TestP7_1WordFaultsFirst(t *testing.T) {
	for s, want := range map[string]api.Fault{
		") $": fault(api.ErrSign, 2, 2), "x ~ 1 mod 0 & y": fault(api.ErrSign, 12, 12), "= α\xff": fault(api.ErrBytes, 4, 3), "x x 9223372036854775808": fault(api.ErrNumber, 4, 4),
		") aaaaaaaaaaaaaaaaa": fault(api.ErrName, 2, 2), "é": fault(api.ErrSign, 0, 0), "x ~ 1 mod 9223372036854775808": fault(api.ErrNumber, 10, 10), "x = !": fault(api.ErrSign, 4, 4),
		") " + strings.Repeat(" ", 4095): fault(api.ErrLong, 0, 0), strings.Repeat("\xff", 4097): fault(api.ErrLong, 0, 0), strings.Repeat("not ", 100) + "true $": fault(api.ErrSign, 405, 405),
	} {
		check(t, s, api.Formula{}, want)
		checkTerm(t, s, api.Term{}, want)
	}
}

// sized is the text of a formula of that many nodes, by halves, so that it is as flat as can be.
func sized(size int) string {
	switch size {
	case 1:
		return "true"
	case 2:
		return "not true"
	}
	return "(" + sized((size-1)/2) + " or " + sized(size-1-(size-1)/2) + ")"
}

func sizedTerm(size int) string {
	switch size {
	case 1:
		return "x"
	case 2:
		return "-x"
	}
	return "[" + sizedTerm((size-1)/2) + " + " + sizedTerm(size-1-(size-1)/2) + "]"
}

func TestP7_1Bounds(t *testing.T) {
	many, deep := fault(api.ErrMany, 0, 0), fault(api.ErrDeep, 0, 0)
	right := func(s string) {
		t.Helper()
		if _, w := parse.Formula(s); w != (api.Fault{}) {
			t.Errorf("Formula(%.100q): %v", s, w)
		}
	}
	right(strings.Repeat("not ", 39) + "true")
	right(strings.Repeat("not ", 38) + "x = 1")
	check(t, strings.Repeat("not ", 39)+"x = 1", api.Formula{}, deep)
	right("ex " + strings.Repeat("x, ", 38) + "x. true")
	check(t, "ex "+strings.Repeat("x, ", 39)+"x. true", api.Formula{}, deep)
	for _, sign := range []string{" and ", " or ", " -> ", " <-> "} {
		right("true" + strings.Repeat(sign+"true", 39))
		check(t, "true"+strings.Repeat(sign+"true", 40), api.Formula{}, deep)
	}
	right(sized(500))
	check(t, sized(501), api.Formula{}, many)
	right(sizedTerm(498) + " = x")
	check(t, sizedTerm(499)+" = x", api.Formula{}, many)
	check(t, sized(490)+" and "+strings.Repeat("not ", 50)+"true", api.Formula{}, many)
	check(t, strings.Repeat("not ", 50)+"true and "+sized(490), api.Formula{}, deep)
	// The node number 501 lies at the depth 41.
	check(t, sized(460)+" and "+strings.Repeat("not ", 39)+"true", api.Formula{}, many)
	check(t, sized(459)+" and "+strings.Repeat("not ", 39)+"true", api.Formula{}, deep)

	for _, s := range []string{strings.Repeat("-", 39) + "x", sizedTerm(500), "x" + strings.Repeat("-x", 39), "x" + strings.Repeat("*x", 39)} {
		if _, w := parse.Term(s); w != (api.Fault{}) {
			t.Errorf("Term(%.100q): %v", s, w)
		}
	}
	for _, s := range []string{strings.Repeat("-", 40) + "x", "x" + strings.Repeat("-x", 40), "x" + strings.Repeat("*x", 40), strings.Repeat("-", 4095) + "x", "x" + strings.Repeat("+x", 2047)} {
		checkTerm(t, s, api.Term{}, deep)
	}
	checkTerm(t, sizedTerm(501), api.Term{}, many)
}

// A word that is wrong is told ahead of a tree that is too great.
func TestP7_1GrammarAheadOfBounds(t *testing.T) {
	nots := strings.Repeat("not ", 60)
	check(t, nots, api.Formula{}, fault(api.ErrGram, 240, 240))
	check(t, nots+"true )", api.Formula{}, fault(api.ErrGram, 245, 245))
	check(t, nots+"x ~ 1 mod 0", api.Formula{}, fault(api.ErrMod, 250, 250))
	s := sized(501)
	check(t, s+" and", api.Formula{}, fault(api.ErrGram, len(s)+4, len(s)+4))
	checkTerm(t, strings.Repeat("-", 60)+"]", api.Term{}, fault(api.ErrGram, 60, 60))
}

// Brackets make no node, however many there are.
func TestP7_1LongTexts(t *testing.T) {
	check(t, strings.Repeat("(", 2046)+"true"+strings.Repeat(")", 2046), of(api.True), api.Fault{})
	checkTerm(t, strings.Repeat("[", 2047)+"xy"+strings.Repeat("]", 2047), name("xy"), api.Fault{})
	check(t, strings.Repeat("(", 4096), api.Formula{}, fault(api.ErrGram, 4096, 4096))
	check(t, strings.Repeat("(", 4097), api.Formula{}, fault(api.ErrLong, 0, 0))
	check(t, strings.Repeat("[", 4096), api.Formula{}, fault(api.ErrGram, 4096, 4096))
	checkTerm(t, strings.Repeat("-", 4096), api.Term{}, fault(api.ErrGram, 4096, 4096))
	check(t, strings.Repeat("¬", 2048), api.Formula{}, fault(api.ErrGram, 4096, 2048))
	check(t, "true"+strings.Repeat("→true", 584), api.Formula{}, fault(api.ErrDeep, 0, 0))
	check(t, "true"+strings.Repeat(" ", 4092), of(api.True), api.Fault{})
	check(t, strings.Repeat("\n", 4096), api.Formula{}, fault(api.ErrGram, 4096, 4096))
}

// walkPrefixes goes through all words with which the grammar goes on from those ahead, up to so many more, and holds each word
// that may not follow, each end, and each whole against the calls.
func (o oracle) walkPrefixes(t *testing.T, ahead string, sets [][]item, left int, goOn []string) {
	o.hold(t, ahead)
	if left == 0 || t.Failed() {
		return
	}
	for _, text := range goOn {
		words, _ := lex.Words(text)
		next := o.after(sets, words[0])
		if next != nil && !(text == "0" && strings.HasSuffix(ahead, "mod ")) {
			o.walkPrefixes(t, ahead+text+" ", next, left-1, goOn)
			continue
		}
		o.hold(t, ahead+text)
		o.hold(t, ahead+text+" x = 1")
	}
}

func TestP7_1AllShortFormulas(t *testing.T) {
	o := newOracle()
	o.walkPrefixes(t, "", o.begin("formula"), 4, strings.Fields("x 0 3 ( ) [ ] , . + - * = != <= >= < > -> <-> ~ and or not ex all mod true false"))
	o.walkPrefixes(t, "", o.begin("formula"), 6, strings.Fields("x ( ) [ ] , . - = -> or not ex true"))
	cong := o.begin("formula")
	for _, w := range []api.Word{{Kind: api.WordName}, {Kind: api.WordSign, Text: "~"}} {
		cong = o.after(cong, w)
	}
	o.walkPrefixes(t, "x ~ ", cong, 5, strings.Fields("x 0 3 ( ) [ ] + - ~ = mod and ex"))
	o.walkPrefixes(t, "", o.begin("term"), 6, strings.Fields("x 0 ( [ ] + - * = mod"))
}

// chance makes texts by the grammar, with blanks and characters that stand for signs, and spoils some of them.
type chance struct {
	*rand.Rand
	rules []rule
}

// text goes on from a rule; where it is deep, by the choice that ends first.
func (c chance) text(part string, depth int) []string {
	switch part {
	case "name":
		return []string{[]string{"x", "y", "z1", "α", "Andy", "modx", "β′"}[c.IntN(7)]}
	case "number":
		return []string{[]string{"1", "2", "007", "9223372036854775807", "12", "3", "0"}[c.IntN(7)]}
	}
	var choices []rule
	for _, r := range c.rules {
		if r.left == part {
			choices = append(choices, r)
		}
	}
	if len(choices) == 0 {
		return []string{strings.Trim(part, `"`)}
	}
	r := choices[c.IntN(len(choices))]
	if depth > 12 {
		r = choices[0]
		if part == "unary" {
			r = choices[3]
		}
	}
	var words []string
	for _, p := range r.right {
		words = append(words, c.text(p, depth+1)...)
	}
	return words
}

func (c chance) spoil(words []string) []string {
	all := strings.Fields("x 0 3 ( ) [ ] , . + - * = != <= >= < > -> <-> ~ and or not ex all mod true false $")
	at := c.IntN(len(words))
	switch c.IntN(4) {
	case 0:
		return slices.Delete(words, at, at+1)
	case 1:
		return slices.Insert(words, at, all[c.IntN(len(all))])
	case 2:
		words[at] = all[c.IntN(len(all))]
	case 3:
		return words[:at]
	}
	return words
}

func (c chance) join(words []string) string {
	stands := map[string]string{"<=": "≤", ">=": "≥", "!=": "≠", "~": "≡", "-": "−", "*": "·", "->": "→", "<->": "↔", "and": "∧", "or": "∨", "not": "¬", "ex": "∃", "all": "∀"}
	var text strings.Builder
	for _, w := range words {
		text.WriteString([]string{" ", " ", "\t", "\r\n", "   "}[c.IntN(5)])
		if other, ok := stands[w]; ok && c.IntN(3) == 0 {
			w = other
		}
		text.WriteString(w)
	}
	return text.String()
}

func TestP7_1ByChance(t *testing.T) {
	o := newOracle()
	c := chance{rand.New(rand.NewPCG(7, 1)), o.rules}
	right, wrong := 0, 0
	for range 6000 {
		words := c.text([]string{"formula", "formula", "term"}[c.IntN(3)], 0)
		if len(words) > 120 {
			continue
		}
		if c.IntN(2) == 0 {
			words = c.spoil(words)
		}
		s := c.join(words)
		if _, w := parse.Formula(s); w == (api.Fault{}) {
			right++
		} else {
			wrong++
		}
		o.hold(t, s)
	}
	if right < 500 || wrong < 500 {
		t.Errorf("%d right texts, %d wrong ones: too few of one kind", right, wrong)
	}
}

// The tree of a text is right.
func TestP7_1TreesAreRight(t *testing.T) {
	c := chance{rand.New(rand.NewPCG(7, 2)), rules()}
	for range 3000 {
		if f, w := parse.Formula(c.join(c.text("formula", 0))); w == (api.Fault{}) && tree.Check(f) != api.OK {
			t.Fatalf("%s: %v", tell(f), tree.Check(f))
		}
		if x, w := parse.Term(c.join(c.text("term", 0))); w == (api.Fault{}) && tree.CheckTerm(x) != api.OK {
			t.Fatalf("%s: %v", tellTerm(x), tree.CheckTerm(x))
		}
	}
}

// piece is memory: its first address, and the one behind it.
type piece struct {
	from, to uintptr
}

func pieceOf[T any](list []T) piece {
	from := uintptr(unsafe.Pointer(unsafe.SliceData(list)))
	var one T
	return piece{from, from + uintptr(cap(list))*unsafe.Sizeof(one)}
}

func pieceOfText(s string) piece {
	from := uintptr(unsafe.Pointer(unsafe.StringData(s)))
	return piece{from, from + uintptr(len(s))}
}

func (p piece) meets(q piece) bool { return p.from < q.to && q.from < p.to }

func pieces(f api.Formula) []piece {
	all := []piece{pieceOf(f.Terms), pieceOf(f.Args), pieceOfText(f.Name)}
	for _, t := range f.Terms {
		all = append(all, termPieces(t)...)
	}
	for _, part := range f.Args {
		all = append(all, pieces(part)...)
	}
	return all
}

func termPieces(t api.Term) []piece {
	all := []piece{pieceOf(t.Args), pieceOfText(t.Name)}
	for _, part := range t.Args {
		all = append(all, termPieces(part)...)
	}
	return all
}

func TestRule3NewMemory(t *testing.T) {
	s := strings.Clone("ex xx, yy. (xx + 2 * [xx - yy] = yy and not xx ~ zz mod 4 or all xx. -xx < xx * xx * 3) <-> true -> xx = xx")
	f, w := parse.Formula(s)
	g, _ := parse.Formula(s)
	x, _ := parse.Term(strings.Clone("xx + xx * 2 - -yy"))
	if w != (api.Fault{}) {
		t.Fatalf("%v", w)
	}
	all := append(append(append(pieces(f), pieces(g)...), termPieces(x)...), pieceOfText(s))
	for i, p := range all {
		for _, q := range all[:i] {
			if p.meets(q) {
				t.Fatalf("pieces of memory meet: %v, %v", p, q)
			}
		}
	}
	f.Args[0].Op, f.Args[0].Args[0].Name = api.Or, "other"
	if again, _ := parse.Formula(s); tell(again) != tell(g) || tell(f) == tell(g) {
		t.Errorf("what is done with one answer is to be seen in another one")
	}
}

func FuzzFormula(f *testing.F) {
	for _, s := range []string{"", "x <= 1 and not y = 2 or z > 0", "ex x, y. x = y <-> true", "x - y - 2 * -z ~ 1 mod 3", "[[x]] * 2 + 1", "(x = 1 -> x ~ 1 mod 0)", "∀α.¬α≥0∨α<0", "\xff"} {
		f.Add(s)
	}
	o := newOracle()
	f.Fuzz(func(t *testing.T, s string) {
		if len(s) > 300 {
			return
		}
		o.hold(t, s)
	})
}
