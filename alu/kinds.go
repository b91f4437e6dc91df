package alu

import (
	"nostos/api"
	"nostos/cell"
	"nostos/flo"
	"nostos/stack"
)

// What a division tells, by its place in what divides and scales choose of.
const (
	left = iota
	quotient
)

// taking is a word that takes so many values, and leaves what is told of them.
func taking(many int, told func(v []int) []int) word {
	return func(data []int) (below, leaves []int) {
		below, taken := take(data, many)
		return below, told(taken)
	}
}

// lays is a word that takes so many values, and leaves those of some places among them.
func lays(many int, places ...int) word {
	return taking(many, func(v []int) []int { return chosen(v, places) })
}

// one is a word that takes a value, and leaves what is told of it.
func one(told func(a int) int) word {
	return taking(1, func(v []int) []int { return []int{told(v[0])} })
}

// two is a word that takes two values, and leaves what is told of them.
func two(told func(a, b int) int) word {
	return taking(2, func(v []int) []int { return []int{told(v[0], v[1])} })
}

// asks is a word that takes so many values, and leaves a flag: whether they are so.
func asks(many int, are func(v []int) bool) word {
	return taking(many, func(v []int) []int { return []int{cell.Flag(are(v))} })
}

// asksOne is a word that leaves a flag: whether a value is so.
func asksOne(is func(a int) bool) word {
	return asks(1, func(v []int) bool { return is(v[0]) })
}

// asksTwo is a word that leaves a flag: whether two values are so.
func asksTwo(are func(a, b int) bool) word {
	return asks(2, func(v []int) bool { return are(v[0], v[1]) })
}

// divides is a word that divides a value by another one, and leaves some of what that tells.
func divides(places ...int) word {
	return taking(2, func(v []int) []int {
		q, r, ok := cell.Div(v[0], v[1])
		want(ok, api.ByZero)
		return chosen([]int{left: r, quotient: q}, places)
	})
}

// scales is a word that divides the product of two values by another one, and leaves some of what that tells.
func scales(places ...int) word {
	return taking(3, func(v []int) []int {
		// Asked first, as cell.Scale's false doesn't tell which one of both it was.
		want(v[2] != 0, api.ByZero)
		q, r, ok := cell.Scale(v[0], v[1], v[2])
		want(ok, api.Range)
		return chosen([]int{left: r, quotient: q}, places)
	})
}

// floatOfTwo is a word that makes a float of two, by one of the ops of package flo.
func floatOfTwo(op byte) word {
	return two(func(a, b int) int {
		told, _ := flo.Two(op, a, b)
		return told
	})
}

// floatOfOne is a word that makes a float of another one, by one of the ops of package flo.
func floatOfOne(op byte) word {
	return one(func(a int) int {
		told, _ := flo.One(op, a)
		return told
	})
}

// whole is the whole number that a float is.
func whole(a int) int {
	n, ok := flo.Take(a)
	want(ok, api.Range)
	return n
}

// twiceIfAny is a value twice, but 0 once.
func twiceIfAny(v []int) []int {
	if v[0] == 0 {
		return v
	}
	return chosen(v, []int{0, 0})
}

// pick leaves the value that has as many others above it as the top says.
func pick(data []int) (below, leaves []int) {
	below, taken := take(data, 1)
	v, thrown := stack.Pick(below, taken[0])
	want(thrown == 0, thrown)
	return below, []int{v}
}

// roll takes that value out, and leaves it on top.
func roll(data []int) (below, leaves []int) {
	below, taken := take(data, 1)
	rolled, thrown := stack.Roll(below, taken[0])
	want(thrown == 0, thrown)
	return rolled, nil
}

// height leaves how many values there are.
func height(data []int) (below, leaves []int) {
	return data, []int{len(data)}
}

// chosen are the values at some places of a list.
func chosen(l, places []int) []int {
	some := make([]int, len(places))
	for n, place := range places {
		some[n] = l[place]
	}
	return some
}
