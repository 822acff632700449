package truth

import (
	"cmp"
	"math/bits"
	"slices"
	"strconv"
	"strings"
)

// whole is a whole number without any bound. None is changed once it is made, so that several may share their digits.
type whole struct {
	negative bool
	// size is the absolute value, in digits of 64 bits, the lowest first. The highest one is not 0, so 0 has none.
	size []uint64
}

// signed answers the whole number with the sign and the digits; 0 is never negative, so it is written in one way.
func signed(negative bool, size []uint64) whole {
	return whole{negative: negative && len(size) > 0, size: size}
}

func wholeOf(number int64) whole {
	return signed(number < 0, trimmed([]uint64{absolute(number)}))
}

// absolute answers the absolute value, which the least number has only among those without a sign.
func absolute(number int64) uint64 {
	if number < 0 {
		return -uint64(number)
	}
	return uint64(number)
}

func (w whole) negated() whole {
	return signed(!w.negative, w.size)
}

func (w whole) plus(v whole) whole {
	if w.negative == v.negative {
		return signed(w.negative, sumOf(w.size, v.size))
	}
	if compareSizes(w.size, v.size) < 0 {
		w, v = v, w
	}
	return signed(w.negative, differenceOf(w.size, v.size))
}

func (w whole) minus(v whole) whole {
	return w.plus(v.negated())
}

func (w whole) times(v whole) whole {
	return signed(w.negative != v.negative, productOf(w.size, v.size))
}

// sign answers -1 below 0, 0 at 0, 1 above it.
func (w whole) sign() int {
	if w.negative {
		return -1
	}
	return min(len(w.size), 1)
}

// isMultiple answers whether the number is a multiple of the modulus, which is 1 or more.
func (w whole) isMultiple(modulus int64) bool {
	_, rest := divided(w.size, uint64(modulus))
	return rest == 0
}

// decimal answers the number's decimal digits, with - ahead below 0.
func (w whole) decimal() string {
	// The greatest power of ten that is one digit of 64 bits, so that each division gives 19 digits.
	const power, width = 10_000_000_000_000_000_000, 19
	var pieces []string
	left, rest := divided(w.size, power)
	for len(left) > 0 {
		piece := strconv.FormatUint(rest, 10)
		pieces = append(pieces, strings.Repeat("0", width-len(piece))+piece)
		left, rest = divided(left, power)
	}
	pieces = append(pieces, strconv.FormatUint(rest, 10))
	if w.negative {
		pieces = append(pieces, "-")
	}
	slices.Reverse(pieces)
	return strings.Join(pieces, "")
}

// trimmed answers the digits without noughts at the top.
func trimmed(size []uint64) []uint64 {
	for len(size) > 0 && size[len(size)-1] == 0 {
		size = size[:len(size)-1]
	}
	return size
}

// digitAt answers the digit number i, 0 above the highest one.
func digitAt(size []uint64, i int) uint64 {
	if i >= len(size) {
		return 0
	}
	return size[i]
}

func compareSizes(a, b []uint64) int {
	if len(a) != len(b) {
		return cmp.Compare(len(a), len(b))
	}
	for i, digit := range slices.Backward(a) {
		if digit != b[i] {
			return cmp.Compare(digit, b[i])
		}
	}
	return 0
}

func sumOf(a, b []uint64) []uint64 {
	sum := make([]uint64, max(len(a), len(b))+1)
	carry := uint64(0)
	for i := range sum {
		sum[i], carry = bits.Add64(digitAt(a, i), digitAt(b, i), carry)
	}
	return trimmed(sum)
}

// differenceOf answers a - b, where b is at most a.
func differenceOf(a, b []uint64) []uint64 {
	difference := make([]uint64, len(a))
	borrow := uint64(0)
	for i := range difference {
		difference[i], borrow = bits.Sub64(a[i], digitAt(b, i), borrow)
	}
	return trimmed(difference)
}

func productOf(a, b []uint64) []uint64 {
	product := make([]uint64, len(a)+len(b))
	for i, x := range a {
		carry := uint64(0)
		for j, y := range b {
			product[i+j], carry = step(x, y, product[i+j], carry)
		}
		product[i+len(b)] = carry
	}
	return trimmed(product)
}

// step answers x * y + sum + carry, which never leaves two digits.
func step(x, y, sum, carry uint64) (low, high uint64) {
	high, low = bits.Mul64(x, y)
	low, first := bits.Add64(low, sum, 0)
	low, second := bits.Add64(low, carry, 0)
	return low, high + first + second
}

// divided answers the quotient and the rest of a division by one digit that is not 0.
func divided(size []uint64, by uint64) (quotient []uint64, rest uint64) {
	quotient = make([]uint64, len(size))
	for i, digit := range slices.Backward(size) {
		quotient[i], rest = bits.Div64(rest, digit, by)
	}
	return trimmed(quotient), rest
}
