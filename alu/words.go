package alu

import (
	"nostos/api"
	"nostos/cell"
	"nostos/flo"
)

// ofPlaces are the words that leave values as they are, at other places.
func ofPlaces() map[string]word {
	return map[string]word{
		"DUP":   lays(1, 0, 0),
		"DROP":  lays(1),
		"SWAP":  lays(2, 1, 0),
		"OVER":  lays(2, 0, 1, 0),
		"ROT":   lays(3, 1, 2, 0),
		"NIP":   lays(2, 1),
		"TUCK":  lays(2, 1, 0, 1),
		"?DUP":  taking(1, twiceIfAny),
		"2DUP":  lays(2, 0, 1, 0, 1),
		"2DROP": lays(2),
		"2SWAP": lays(4, 2, 3, 0, 1),
		"2OVER": lays(4, 0, 1, 2, 3, 0, 1),
		"PICK":  pick,
		"ROLL":  roll,
		"DEPTH": height,
	}
}

// ofOne are the words that make one number of another one.
func ofOne() map[string]word {
	return map[string]word{
		"1+":     one(func(a int) int { return a + 1 }),
		"1-":     one(func(a int) int { return a - 1 }),
		"2*":     one(func(a int) int { return a * 2 }),
		"2/":     one(func(a int) int { return a >> 1 }),
		"NEGATE": one(func(a int) int { return -a }),
		"ABS":    one(func(a int) int { return max(a, -a) }),
		"INVERT": one(func(a int) int { return ^a }),
		"CELLS":  one(func(a int) int { return a * api.Cell }),
		"CELL+":  one(func(a int) int { return a + api.Cell }),
	}
}

// ofTwo are the words that make one number of two.
func ofTwo() map[string]word {
	return map[string]word{
		"+":      two(func(a, b int) int { return a + b }),
		"-":      two(func(a, b int) int { return a - b }),
		"*":      two(func(a, b int) int { return a * b }),
		"MIN":    two(func(a, b int) int { return min(a, b) }),
		"MAX":    two(func(a, b int) int { return max(a, b) }),
		"AND":    two(func(a, b int) int { return a & b }),
		"OR":     two(func(a, b int) int { return a | b }),
		"XOR":    two(func(a, b int) int { return a ^ b }),
		"LSHIFT": two(cell.Left),
		"RSHIFT": two(cell.Right),
	}
}

// ofQuotients are the words that divide.
func ofQuotients() map[string]word {
	return map[string]word{
		"/":     divides(quotient),
		"MOD":   divides(left),
		"/MOD":  divides(left, quotient),
		"*/":    scales(quotient),
		"*/MOD": scales(left, quotient),
	}
}

// ofQuestions are the words that tell whether something is so.
func ofQuestions() map[string]word {
	return map[string]word{
		"=":      asksTwo(func(a, b int) bool { return a == b }),
		"<>":     asksTwo(func(a, b int) bool { return a != b }),
		"<":      asksTwo(func(a, b int) bool { return a < b }),
		">":      asksTwo(func(a, b int) bool { return a > b }),
		"U<":     asksTwo(cell.Below),
		"0=":     asksOne(func(a int) bool { return a == 0 }),
		"0<":     asksOne(func(a int) bool { return a < 0 }),
		"0<>":    asksOne(func(a int) bool { return a != 0 }),
		"0>":     asksOne(func(a int) bool { return a > 0 }),
		"WITHIN": asks(3, func(v []int) bool { return cell.Within(v[0], v[1], v[2]) }),
		"TRUE":   asks(0, func([]int) bool { return true }),
		"FALSE":  asks(0, func([]int) bool { return false }),
	}
}

// ofFloats are the words on floats.
func ofFloats() map[string]word {
	return map[string]word{
		"F+":      floatOfTwo('+'),
		"F-":      floatOfTwo('-'),
		"F*":      floatOfTwo('*'),
		"F/":      floatOfTwo('/'),
		"FMIN":    floatOfTwo('m'),
		"FMAX":    floatOfTwo('M'),
		"FNEGATE": floatOfOne('n'),
		"FABS":    floatOfOne('a'),
		"FSQRT":   floatOfOne('s'),
		"FLOOR":   floatOfOne('f'),
		"F<":      asksTwo(flo.Less),
		"F=":      asksTwo(flo.Same),
		"S>F":     one(flo.Put),
		"F>S":     one(whole),
	}
}
