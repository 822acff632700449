package bits

import (
	mathbits "math/bits"

	"tabard/api"
)

const cellBits = 64

// Set is a set of some of the numbers from 0 to its size less 1. It is used by the pointers that New and Copy give.
type Set struct {
	size int
	// Number i is bit i % 64 of cell i / 64. The bits from size on stay 0, so that sets of one size are the same just
	// if their cells are.
	cells []uint64
}

// New answers an empty set of that size, or ErrRange.
func New(size int) (*Set, api.Errno) {
	if size < 0 || size > api.MaxSet {
		return nil, api.ErrRange
	}
	return &Set{size: size, cells: make([]uint64, (size+cellBits-1)/cellBits)}, api.OK
}

// Size answers how many numbers may be in the set.
func (s *Set) Size() int {
	if s == nil {
		return 0
	}
	return s.size
}

// Put makes i a number of the set; ErrNil, ErrRange.
func (s *Set) Put(i int) api.Errno {
	if err := s.refuse(i); err != api.OK {
		return err
	}
	s.cells[i/cellBits] |= bitOf(i)
	return api.OK
}

// Drop makes i no number of the set; ErrNil, ErrRange.
func (s *Set) Drop(i int) api.Errno {
	if err := s.refuse(i); err != api.OK {
		return err
	}
	s.cells[i/cellBits] &^= bitOf(i)
	return api.OK
}

// Has answers whether i is in the set.
func (s *Set) Has(i int) bool {
	return s.refuse(i) == api.OK && s.cells[i/cellBits]&bitOf(i) != 0
}

// Count answers how many numbers are in the set.
func (s *Set) Count() int {
	if s == nil {
		return 0
	}
	count := 0
	for _, cell := range s.cells {
		count += mathbits.OnesCount64(cell)
	}
	return count
}

// List answers the numbers of the set, rising.
func (s *Set) List() []int {
	list := []int{}
	for i := range s.Size() {
		if s.Has(i) {
			list = append(list, i)
		}
	}
	return list
}

// Join leaves in the set what was in one of the two or both; ErrNil, ErrShape.
func (s *Set) Join(t *Set) api.Errno {
	if err := s.refuseOther(t); err != api.OK {
		return err
	}
	for i, cell := range t.cells {
		s.cells[i] |= cell
	}
	return api.OK
}

// Meet leaves in the set what was in both; ErrNil, ErrShape.
func (s *Set) Meet(t *Set) api.Errno {
	if err := s.refuseOther(t); err != api.OK {
		return err
	}
	for i, cell := range t.cells {
		s.cells[i] &= cell
	}
	return api.OK
}

// Less leaves in the set what was in it and not in t; ErrNil, ErrShape.
func (s *Set) Less(t *Set) api.Errno {
	if err := s.refuseOther(t); err != api.OK {
		return err
	}
	for i, cell := range t.cells {
		s.cells[i] &^= cell
	}
	return api.OK
}

// Same answers whether neither is nil and the two have the same size and the same numbers.
func (s *Set) Same(t *Set) bool {
	if s.refuseOther(t) != api.OK {
		return false
	}
	for i, cell := range t.cells {
		if s.cells[i] != cell {
			return false
		}
	}
	return true
}

// Key answers a text that two sets of one size share just if their numbers are the same.
func (s *Set) Key() string {
	if s == nil {
		return ""
	}
	key := make([]byte, 0, len(s.cells)*cellBits/8)
	for _, cell := range s.cells {
		for shift := 0; shift < cellBits; shift += 8 {
			key = append(key, byte(cell>>shift))
		}
	}
	return string(key)
}

// Copy answers a new set with the same size and the same numbers; of nil nil.
func (s *Set) Copy() *Set {
	if s == nil {
		return nil
	}
	cells := make([]uint64, len(s.cells))
	copy(cells, s.cells)
	return &Set{size: s.size, cells: cells}
}

// refuse tells why i can be no number of the set.
func (s *Set) refuse(i int) api.Errno {
	if s == nil {
		return api.ErrNil
	}
	if i < 0 || i >= s.size {
		return api.ErrRange
	}
	return api.OK
}

// refuseOther tells why the set can't be held against t.
func (s *Set) refuseOther(t *Set) api.Errno {
	if s == nil || t == nil {
		return api.ErrNil
	}
	if s.size != t.size {
		return api.ErrShape
	}
	return api.OK
}

func bitOf(i int) uint64 {
	return 1 << (i % cellBits)
}
