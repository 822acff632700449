package truth

import (
	"slices"

	"tabard/api"
)

// machine works right trees without quantifiers out, the parts of a node ahead of the node, on a stack.
// The names rise, and there are as many values.
type machine struct {
	names  []string
	values []int64
	// stack has what is worked out and not yet used: the numbers of terms (whole), the truths of formulas (bool).
	// A name without a value leaves nothing there (nil), on which whoever takes it off panics.
	stack []any
}

func (m *machine) push(value any) {
	m.stack = append(m.stack, value)
}

func (m *machine) pop() any {
	top := m.stack[len(m.stack)-1]
	m.stack = m.stack[:len(m.stack)-1]
	return top
}

// number takes a number off.
func (m *machine) number() whole {
	return m.pop().(whole)
}

// truth takes a truth off.
func (m *machine) truth() bool {
	return m.pop().(bool)
}

// numbers takes two numbers off, of which the second one lies above the first.
func (m *machine) numbers() (first, second whole) {
	second = m.number()
	return m.number(), second
}

// truths takes two truths off, both whatever the first one is, or what a part leaves would be taken for another's.
func (m *machine) truths() (first, second bool) {
	second = m.truth()
	return m.truth(), second
}

// isSame takes two numbers or two truths off, and answers whether they are the same.
func (m *machine) isSame() bool {
	second := m.pop()
	if number, ok := second.(whole); ok {
		return m.number().minus(number).sign() == 0
	}
	return m.truth() == second.(bool)
}

// signOfDifference takes two numbers off, and answers the sign of the first less the second.
func (m *machine) signOfDifference() int {
	first, second := m.numbers()
	return first.minus(second).sign()
}

// named answers the name's value, nil if it has none.
func (m *machine) named(name string) any {
	i, found := slices.BinarySearch(m.names, name)
	if !found {
		return nil
	}
	return wholeOf(m.values[i])
}

// term leaves the term's value on the stack.
func (m *machine) term(t api.Term) {
	for _, part := range t.Args {
		m.term(part)
	}
	m.push(m.valueOf(t))
}

// valueOf answers the term's value, those of its parts being taken off.
func (m *machine) valueOf(t api.Term) any {
	switch t.Op {
	case api.TermNumber:
		return wholeOf(t.Number)
	case api.TermName:
		return m.named(t.Name)
	case api.TermNeg:
		return m.number().negated()
	}
	first, second := m.numbers()
	switch t.Op {
	case api.TermAdd:
		return first.plus(second)
	case api.TermSub:
		return first.minus(second)
	}
	return first.times(second)
}

// formula leaves on the stack whether the formula holds.
func (m *machine) formula(f api.Formula) {
	for _, t := range f.Terms {
		m.term(t)
	}
	for _, part := range f.Args {
		m.formula(part)
	}
	m.push(m.holds(f))
}

// holds answers whether the formula does, the values of its terms and parts being taken off.
func (m *machine) holds(f api.Formula) bool {
	switch f.Op {
	case api.True:
		return true
	case api.False:
		return false
	case api.Not:
		return !m.truth()
	case api.And, api.Or, api.Implies:
		return m.connects(f.Op)
	case api.Iff, api.Eq:
		return m.isSame()
	case api.Ne:
		return !m.isSame()
	case api.Le:
		return m.signOfDifference() <= 0
	case api.Lt:
		return m.signOfDifference() < 0
	case api.Ge:
		return m.signOfDifference() >= 0
	case api.Gt:
		return m.signOfDifference() > 0
	}
	first, second := m.numbers()
	return first.minus(second).isMultiple(f.Modulus)
}

func (m *machine) connects(op api.Op) bool {
	first, second := m.truths()
	switch op {
	case api.And:
		return first && second
	case api.Or:
		return first || second
	}
	return !first || second
}
