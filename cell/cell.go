// Package cell is layer 1, cells: integers of 64 bits. See shared/doc/01-cell.md.
package cell

import (
	"math"
	"math/bits"
)

// Flag is the cell by which a program is told whether something is so.
func Flag(is bool) int {
	if is {
		return -1
	}
	return 0
}

// Below tells whether a is below b, both without their signs.
func Below(a, b int) bool {
	return uint64(a) < uint64(b)
}

// Within tells whether x lies from one cell on and ahead of another one, on the ring of all cells.
func Within(x, from, to int) bool {
	return Below(x-from, to-from)
}

// Div is the quotient of a and b, rounded down, and what is left; false by 0.
func Div(a, b int) (int, int, bool) {
	if b == 0 {
		return 0, 0, false
	}
	return downBy(b)(a/b, a%b)
}

// Scale is the whole product of a and b by c, rounded down, and what is left; false by 0, and if the quotient is no cell.
func Scale(a, b, c int) (int, int, bool) {
	if c == 0 {
		return 0, 0, false
	}
	p := product(size(a), size(b))
	by := size(c)
	// A quotient of more than 64 bits: Div64 would panic.
	if p[0] >= by {
		return 0, 0, false
	}
	most, left := bits.Div64(p[0], p[1], by)
	minus := (a < 0) != (b < 0)
	q, ok := signed(most, minus != (c < 0))
	if !ok {
		return 0, 0, false
	}
	// What is left is below a divisor's size, so it is a cell with either sign.
	r, _ := signed(left, minus)
	return downBy(c)(q, r)
}

// Left shifts a to the left by n bits, n without its sign.
func Left(a, n int) int {
	return a << uint64(n)
}

// Right shifts a to the right by n bits, n without its sign; noughts come in, whatever the sign of a.
func Right(a, n int) int {
	return int(uint64(a) >> uint64(n))
}

// downBy answers what rounds a quotient by c down that was cut towards 0, with what that left; it tells false, if the one rounded down is no cell.
func downBy(c int) func(q, r int) (int, int, bool) {
	return func(q, r int) (int, int, bool) {
		if r == 0 || (r < 0) == (c < 0) {
			return q, r, true
		}
		if q == math.MinInt {
			return 0, 0, false
		}
		return q - 1, r + c, true
	}
}

// product is the whole product of a and b, its upper 64 bits first.
func product(a, b uint64) [2]uint64 {
	hi, lo := bits.Mul64(a, b)
	return [2]uint64{hi, lo}
}

// size is a without its minus sign; it isn't a cell, because the least cell has none that is as great.
func size(a int) uint64 {
	if a < 0 {
		return -uint64(a)
	}
	return uint64(a)
}

// signed is the cell of a size and a sign; false, if there is none.
func signed(most uint64, minus bool) (int, bool) {
	if minus {
		return int(-most), most <= 1<<63
	}
	return int(most), most <= math.MaxInt
}
