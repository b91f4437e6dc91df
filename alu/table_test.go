package alu_test

import (
	"math/big"
	"slices"
	"testing"

	"nostos/alu"
	"nostos/api"
	"nostos/cell"
	"nostos/flo"
	"nostos/ops"
	"nostos/stack"
)

// does is what a word does with the values that it takes, and those below: the stack then, and what is thrown.
type does func(below, v []int) ([]int, int)

// row is a row of the chapter's table: a word, how many values it takes, and what it does with them.
type row struct {
	name  string
	takes int
	does  does
}

// table is the chapter's.
var table = []row{
	{"DUP", 1, leaves(func(v []int) []int { return []int{v[0], v[0]} })},
	{"DROP", 1, leaves(func(v []int) []int { return nil })},
	{"SWAP", 2, leaves(func(v []int) []int { return []int{v[1], v[0]} })},
	{"OVER", 2, leaves(func(v []int) []int { return []int{v[0], v[1], v[0]} })},
	{"ROT", 3, leaves(func(v []int) []int { return []int{v[1], v[2], v[0]} })},
	{"NIP", 2, leaves(func(v []int) []int { return []int{v[1]} })},
	{"TUCK", 2, leaves(func(v []int) []int { return []int{v[1], v[0], v[1]} })},
	{"?DUP", 1, leaves(func(v []int) []int { return map[bool][]int{true: {0}, false: {v[0], v[0]}}[v[0] == 0] })},
	{"2DUP", 2, leaves(func(v []int) []int { return []int{v[0], v[1], v[0], v[1]} })},
	{"2DROP", 2, leaves(func(v []int) []int { return nil })},
	{"2SWAP", 4, leaves(func(v []int) []int { return []int{v[2], v[3], v[0], v[1]} })},
	{"2OVER", 4, leaves(func(v []int) []int { return []int{v[0], v[1], v[2], v[3], v[0], v[1]} })},
	{"PICK", 1, picks},
	{"ROLL", 1, func(below, v []int) ([]int, int) { return stack.Roll(below, v[0]) }},
	{"DEPTH", 0, func(below, v []int) ([]int, int) { return append(below, len(below)), 0 }},
	{"+", 2, round(func(v []*big.Int) *big.Int { return new(big.Int).Add(v[0], v[1]) })},
	{"-", 2, round(func(v []*big.Int) *big.Int { return new(big.Int).Sub(v[0], v[1]) })},
	{"*", 2, round(func(v []*big.Int) *big.Int { return new(big.Int).Mul(v[0], v[1]) })},
	{"/", 2, divides(func(q, r int) []int { return []int{q} })},
	{"MOD", 2, divides(func(q, r int) []int { return []int{r} })},
	{"/MOD", 2, divides(func(q, r int) []int { return []int{r, q} })},
	{"*/", 3, divides(func(q, r int) []int { return []int{q} })},
	{"*/MOD", 3, divides(func(q, r int) []int { return []int{r, q} })},
	{"1+", 1, round(func(v []*big.Int) *big.Int { return new(big.Int).Add(v[0], big.NewInt(1)) })},
	{"1-", 1, round(func(v []*big.Int) *big.Int { return new(big.Int).Sub(v[0], big.NewInt(1)) })},
	{"2*", 1, round(func(v []*big.Int) *big.Int { return new(big.Int).Mul(v[0], big.NewInt(2)) })},
	{"NEGATE", 1, round(func(v []*big.Int) *big.Int { return new(big.Int).Neg(v[0]) })},
	// By a number above 0, this quotient is the one that is rounded down.
	{"2/", 1, round(func(v []*big.Int) *big.Int { return new(big.Int).Div(v[0], big.NewInt(2)) })},
	{"ABS", 1, round(func(v []*big.Int) *big.Int { return new(big.Int).Abs(v[0]) })},
	{"MIN", 2, number(slices.Min[[]int])},
	{"MAX", 2, number(slices.Max[[]int])},
	{"AND", 2, bitByBit(func(a, b bool) bool { return a && b })},
	{"OR", 2, bitByBit(func(a, b bool) bool { return a || b })},
	{"XOR", 2, bitByBit(func(a, b bool) bool { return a != b })},
	{"INVERT", 1, number(func(v []int) int { return -1 - v[0] })},
	{"LSHIFT", 2, number(func(v []int) int { return cell.Left(v[0], v[1]) })},
	{"RSHIFT", 2, number(func(v []int) int { return cell.Right(v[0], v[1]) })},
	{"=", 2, flag(func(v []int) bool { return v[0] == v[1] })},
	{"<>", 2, flag(func(v []int) bool { return v[0] != v[1] })},
	{"<", 2, flag(func(v []int) bool { return v[0] < v[1] })},
	{">", 2, flag(func(v []int) bool { return v[0] > v[1] })},
	{"U<", 2, flag(func(v []int) bool { return cell.Below(v[0], v[1]) })},
	{"0=", 1, flag(func(v []int) bool { return v[0] == 0 })},
	{"0<", 1, flag(func(v []int) bool { return v[0] < 0 })},
	{"0<>", 1, flag(func(v []int) bool { return v[0] != 0 })},
	{"0>", 1, flag(func(v []int) bool { return v[0] > 0 })},
	{"WITHIN", 3, flag(func(v []int) bool { return cell.Within(v[0], v[1], v[2]) })},
	{"TRUE", 0, number(func(v []int) int { return -1 })},
	{"FALSE", 0, number(func(v []int) int { return 0 })},
	{"CELLS", 1, round(func(v []*big.Int) *big.Int { return new(big.Int).Mul(v[0], big.NewInt(8)) })},
	{"CELL+", 1, round(func(v []*big.Int) *big.Int { return new(big.Int).Add(v[0], big.NewInt(8)) })},
	{"F+", 2, float('+')},
	{"F-", 2, float('-')},
	{"F*", 2, float('*')},
	{"F/", 2, float('/')},
	{"FMIN", 2, float('m')},
	{"FMAX", 2, float('M')},
	{"FNEGATE", 1, float('n')},
	{"FABS", 1, float('a')},
	{"FSQRT", 1, float('s')},
	{"FLOOR", 1, float('f')},
	{"F<", 2, flag(func(v []int) bool { return flo.Less(v[0], v[1]) })},
	{"F=", 2, flag(func(v []int) bool { return flo.Same(v[0], v[1]) })},
	{"S>F", 1, number(func(v []int) int { return flo.Put(v[0]) })},
	{"F>S", 1, takes},
}

// leaves is what a word does that throws nothing: what is told of the values that it takes lies on those below.
func leaves(told func(v []int) []int) does {
	return func(below, v []int) ([]int, int) { return append(below, told(v)...), 0 }
}

// number is what a word does that leaves one number.
func number(told func(v []int) int) does {
	return leaves(func(v []int) []int { return []int{told(v)} })
}

// flag is what a word does that leaves whether something is so.
func flag(is func(v []int) bool) does {
	return number(func(v []int) int { return map[bool]int{true: -1}[is(v)] })
}

// round is what a word does that leaves a whole number, going round at 2^64.
func round(told func(v []*big.Int) *big.Int) does {
	return number(func(v []int) int {
		var whole []*big.Int
		for _, n := range v {
			whole = append(whole, big.NewInt(int64(n)))
		}
		low := new(big.Int).And(told(whole), new(big.Int).SetUint64(1<<64-1))
		return int(low.Uint64())
	})
}

// bitByBit is what a word does that leaves what is told of each two bits.
func bitByBit(told func(a, b bool) bool) does {
	return number(func(v []int) int {
		n := 0
		for at := range 64 {
			if told(v[0]>>at&1 == 1, v[1]>>at&1 == 1) {
				n |= 1 << at
			}
		}
		return n
	})
}

// divides is what a word does that divides, and leaves what is told of the quotient, and of what is left.
func divides(told func(q, r int) []int) does {
	return func(below, v []int) ([]int, int) {
		if v[len(v)-1] == 0 {
			return nil, api.ByZero
		}
		q, r, ok := cell.Div(v[0], v[1])
		if len(v) == 3 {
			q, r, ok = cell.Scale(v[0], v[1], v[2])
		}
		if !ok {
			return nil, api.Range
		}
		return append(below, told(q, r)...), 0
	}
}

// float is what a word does that leaves a float, of one or of two.
func float(op byte) does {
	return number(func(v []int) int {
		told, _ := flo.One(op, v[0])
		if len(v) == 2 {
			told, _ = flo.Two(op, v[0], v[1])
		}
		return told
	})
}

// takes is what F>S does.
func takes(below, v []int) ([]int, int) {
	n, ok := flo.Take(v[0])
	if !ok {
		return nil, api.Range
	}
	return append(below, n), 0
}

// picks is what PICK does.
func picks(below, v []int) ([]int, int) {
	n, thrown := stack.Pick(below, v[0])
	return append(below, n), thrown
}

// want is what is to be told of a word, a stack and a depth.
func (r row) want(data []int, depth int) ([]int, int) {
	if len(data) < r.takes {
		return nil, api.Under
	}
	at := len(data) - r.takes
	then, thrown := r.does(slices.Clone(data[:at]), slices.Clone(data[at:]))
	switch {
	case thrown != 0:
		return nil, thrown
	case len(then) > depth:
		return nil, api.Over
	}
	return then, 0
}

// op is the word's number.
func (r row) op() int { return ops.Find(r.name) }

// roomy is a stack with values behind its end, in the same room.
func roomy(data []int) []int {
	room := append(slices.Clone(data), 1001, 1002, 1003, 1004, 1005, 1006)
	return slices.Clip(room)[:len(data)]
}

// whole is a stack with what lies behind its end.
func whole(l []int) []int { return l[:cap(l)] }

// check does a word by its number, and tells whether all is as the table has it; what was handed in must stay, too.
func (r row) check(t *testing.T, op int, data []int, depth int) bool {
	t.Helper()
	handed := roomy(data)
	then, thrown, is := alu.Do(op, handed, depth)
	want, code := r.want(data, depth)
	if !slices.Equal(then, want) || thrown != code || !is {
		t.Errorf("%s of %v, depth %d: %v, %d, %v, not %v, %d", r.name, data, depth, then, thrown, is, want, code)
		return false
	}
	if !slices.Equal(whole(handed), whole(roomy(data))) {
		t.Errorf("%s of %v, depth %d: handed in, it is %v now", r.name, data, depth, whole(handed))
		return false
	}
	return true
}
