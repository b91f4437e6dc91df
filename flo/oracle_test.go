package flo_test

import (
	"math"
	"math/big"
)

const (
	nan      = 0x7FF8000000000000
	nought   = 0
	minus0   = math.MinInt
	infinity = 0x7FF0000000000000
	minusInf = infinity + math.MinInt
	one      = 0x3FF0000000000000
)

// nans are NaNs, with and without a sign, quiet and signalling ones; the first one alone is the one that is told.
var nans = []int{
	nan, nan + 1, 0x7FF0000000000001, 0x7FF7FFFFFFFFFFFF, 0x7FF4000000000000, math.MaxInt,
	nan + math.MinInt, nan + 1 + math.MinInt, minusInf + 1, minusInf + 0x4000000000000, -1,
}

// sizes are floats without a sign, by their bits: noughts, those below the normal ones, those around 1, around 2^52, 2^53, 2^62, 2^63 and 2^64, the greatest ones, and infinity.
var sizes = []int{
	nought, 1, 2, 3, 4, 5, 0x8000000000000, 0xFFFFFFFFFFFFE, 0xFFFFFFFFFFFFF,
	0x10000000000000, 0x10000000000001, 0x1FFFFFFFFFFFFF, 0x20000000000000, 0x20000000000001, 0x30000000000001, 0x1E56E1FC2F8F359,
	0x1FF0000000000000, 0x1FF0000000000001, 0x2000000000000000, 0x3CA0000000000000, 0x3CB0000000000000, 0x3CA0000000000001,
	0x3FB999999999999A, 0x3FD5555555555555, 0x3FDFFFFFFFFFFFFF, 0x3FE0000000000000, 0x3FE0000000000001,
	0x3FEFFFFFFFFFFFFE, 0x3FEFFFFFFFFFFFFF, one, one + 1, one + 2, one + 3, 0x3FF8000000000000, 0x3FFFFFFFFFFFFFFF,
	0x4000000000000000, 0x4000000000000001, 0x4004000000000000, 0x4008000000000000, 0x4008000000000001, 0x400921FB54442D18, 0x4010000000000000, 0x401C000000000000, 0x4024000000000000,
	0x432FFFFFFFFFFFFF, 0x4330000000000000, 0x4330000000000001, 0x433FFFFFFFFFFFFF, 0x4340000000000000, 0x4340000000000001,
	0x43CFFFFFFFFFFFFF, 0x43D0000000000000, 0x43DFFFFFFFFFFFFE, 0x43DFFFFFFFFFFFFF, 0x43E0000000000000, 0x43E0000000000001, 0x43F0000000000000,
	0x5FE0000000000000, 0x5FF0000000000000, 0x5FF0000000000001, 0x7FE0000000000000, 0x7FEFFFFFFFFFFFFE, 0x7FEFFFFFFFFFFFFF, infinity,
}

// floats are all sizes with both signs, and some floats more, of bits without a rule.
func floats() []int {
	var l []int
	for _, a := range sizes {
		l = append(l, a, a+math.MinInt)
	}
	x := uint64(88172645463325252)
	for range 60 {
		x ^= x << 13
		x ^= x >> 7
		x ^= x << 17
		// The first one keeps all bits; the second one is of a size at which sums are rounded.
		for _, a := range []int{int(x), int(x&^(0x7FF<<52) | (0x3F0+x>>57)<<52)} {
			if !isNaN(a) {
				l = append(l, a)
			}
		}
	}
	return l
}

func size(a int) int       { return a & math.MaxInt }
func isNaN(a int) bool     { return size(a) > infinity }
func isInf(a int) bool     { return size(a) == infinity }
func isNought(a int) bool  { return size(a) == 0 }
func minus(a int) bool     { return a < 0 }
func bits(x float64) int   { return int(math.Float64bits(x)) }
func whole(n int) *big.Int { return big.NewInt(int64(n)) }

// signed is a size with a sign.
func signed(size int, minus bool) int {
	if minus {
		return size + math.MinInt
	}
	return size
}

// exact is the number that a float is, made of its bits alone: a sign, 11 bits of an exponent, 52 of a fraction.
func exact(a int) *big.Rat {
	exponent, fraction := size(a)>>52, size(a)&(1<<52-1)
	if exponent == 0 {
		exponent = 1
	} else {
		fraction += 1 << 52
	}
	if minus(a) {
		fraction = -fraction
	}
	r := new(big.Rat).SetInt(whole(fraction))
	power := new(big.Int).Lsh(whole(1), uint(max(exponent-1075, 1075-exponent)))
	if exponent < 1075 {
		return r.Quo(r, new(big.Rat).SetInt(power))
	}
	return r.Mul(r, new(big.Rat).SetInt(power))
}

// rounded is the float nearest to a number, of two the even one; of a number that is rounded to nought, the nought of its sign.
func rounded(r *big.Rat) int {
	x, _ := r.Float64()
	return signed(size(bits(x)), r.Sign() < 0)
}

// sum is what comes of two floats by +, neither a NaN.
func sum(a, b int) int {
	switch {
	case isInf(a) && isInf(b) && a != b:
		return nan
	case isInf(a):
		return a
	case isInf(b):
		return b
	}
	r := new(big.Rat).Add(exact(a), exact(b))
	if r.Sign() == 0 {
		return signed(nought, minus(a) && minus(b))
	}
	return rounded(r)
}

// product is what comes of two floats by *, neither a NaN.
func product(a, b int) int {
	away := minus(a) != minus(b)
	switch {
	case isInf(a) && isNought(b), isNought(a) && isInf(b):
		return nan
	case isInf(a) || isInf(b):
		return signed(infinity, away)
	case isNought(a) || isNought(b):
		return signed(nought, away)
	}
	return rounded(new(big.Rat).Mul(exact(a), exact(b)))
}

// quotient is what comes of two floats by /, neither a NaN.
func quotient(a, b int) int {
	away := minus(a) != minus(b)
	switch {
	case isInf(a) && isInf(b), isNought(a) && isNought(b):
		return nan
	case isInf(a) || isNought(b):
		return signed(infinity, away)
	case isNought(a) || isInf(b):
		return signed(nought, away)
	}
	return rounded(new(big.Rat).Quo(exact(a), exact(b)))
}

// order is a cell that is less of a lesser float, neither a NaN, and less of -0 than of 0.
func order(a int) int {
	if minus(a) {
		return -size(a) - 1
	}
	return a
}

// two is what Two is to tell of an op that there is.
func two(op byte, a, b int) int {
	if isNaN(a) || isNaN(b) {
		return nan
	}
	below := order(a) < order(b)
	switch op {
	case '+':
		return sum(a, b)
	case '-':
		return sum(a, signed(size(b), !minus(b)))
	case '*':
		return product(a, b)
	case '/':
		return quotient(a, b)
	}
	if below == (op == 'm') {
		return a
	}
	return b
}

// isRoot tells whether r is the float nearest to the square root of a, a finite one above 0: whether a lies between the squares of the numbers midway to r's neighbours.
func isRoot(a, r int) bool {
	half := big.NewRat(1, 2)
	low := new(big.Rat).Add(exact(r-1), exact(r))
	high := new(big.Rat).Add(exact(r), exact(r+1))
	low.Mul(low, half)
	high.Mul(high, half)
	x := exact(a)
	return x.Cmp(low.Mul(low, low)) > 0 && x.Cmp(high.Mul(high, high)) < 0
}

// floored is the greatest whole number that is not above a, no NaN.
func floored(a int) int {
	if isInf(a) || isNought(a) {
		return a
	}
	x := exact(a)
	q := new(big.Int).Div(x.Num(), x.Denom())
	return rounded(new(big.Rat).SetInt(q))
}
