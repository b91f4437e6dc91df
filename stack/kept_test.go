package stack_test

import (
	"math"
	"slices"
	"testing"

	"nostos/api"
	"nostos/stack"
)

// filled are so many values, no two the same, in room that goes on behind them.
func filled(many int) []int {
	room := make([]int, many+5)
	for at := range room {
		room[at] = at*1000003 - 7
	}
	return room[:many]
}

// same tells whether what was handed in is as it was, with what stands behind it in the same room.
func same(l, was []int) bool {
	return slices.Equal(l[:cap(l)], was[:cap(was)])
}

// numbers are all in and around a stack's places, and those at the ends of all.
func numbers(many int) []int {
	l := []int{
		math.MinInt, math.MinInt + 1, math.MinInt + many, math.MinInt / 2, -1 << 32, -1 << 31,
		1 << 31, 1 << 32, math.MaxInt / 2, math.MaxInt - many, math.MaxInt - 1, math.MaxInt,
	}
	for n := -many - 3; n < many+4; n++ {
		l = append(l, n)
	}
	return l
}

// P4.1
func TestPushAll(t *testing.T) {
	for below := range 6 {
		for many := range 6 {
			for _, depth := range numbers(12) {
				l, v := filled(below), filled(many)
				var want []int
				code := api.Over
				if depth >= below+many {
					want, code = make([]int, below+many), 0
					for at := range want {
						if at < below {
							want[at] = l[at]
						} else {
							want[at] = v[at-below]
						}
					}
				}
				if told, thrown := stack.Push(l, depth, v...); !slices.Equal(told, want) || thrown != code || thrown != 0 && told != nil {
					t.Errorf("%d on %d, depth %d: %v, %d", many, below, depth, told, thrown)
				}
				if !same(l, filled(below)) || !same(v, filled(many)) {
					t.Errorf("%d on %d, depth %d: handed in, they are %v and %v now", many, below, depth, l, v)
				}
			}
		}
	}
}

// P4.1
func TestPopAll(t *testing.T) {
	for length := range 9 {
		for _, many := range numbers(length) {
			l := filled(length)
			var left, taken []int
			code := api.Under
			if many >= 0 && many <= length {
				code = 0
				for at, v := range l {
					if length-at > many {
						left = append(left, v)
					} else {
						taken = append(taken, v)
					}
				}
			}
			gotLeft, gotTaken, thrown := stack.Pop(l, many)
			if !slices.Equal(gotLeft, left) || !slices.Equal(gotTaken, taken) || thrown != code {
				t.Errorf("%d of %d: %v, %v, %d", many, length, gotLeft, gotTaken, thrown)
			}
			if thrown != 0 && (gotLeft != nil || gotTaken != nil) {
				t.Errorf("%d of %d: beside what is thrown: %v, %v", many, length, gotLeft, gotTaken)
			}
			if !same(l, filled(length)) {
				t.Errorf("%d of %d: handed in, it is %v now", many, length, l)
			}
		}
	}
}

// P4.2
func TestPickAndRollAll(t *testing.T) {
	for length := range 9 {
		for _, n := range numbers(length) {
			l := filled(length)
			var want []int
			top, code := 0, api.Under
			if n >= 0 && n < length {
				code = 0
				for at, v := range l {
					if length-1-at != n {
						want = append(want, v)
					} else {
						top = v
					}
				}
				want = append(want, top)
			}
			if v, thrown := stack.Pick(l, n); v != top || thrown != code {
				t.Errorf("%d picked of %d: %d, %d", n, length, v, thrown)
			}
			if told, thrown := stack.Roll(l, n); !slices.Equal(told, want) || thrown != code || thrown != 0 && told != nil {
				t.Errorf("%d rolled of %d: %v, %d", n, length, told, thrown)
			}
			if !same(l, filled(length)) {
				t.Errorf("%d of %d: handed in, it is %v now", n, length, l)
			}
		}
	}
}

// TestOwnMemory writes into all that is told, and into the room behind it: nothing of it is to be seen in what was handed in, or in the other list that was told (P4.1, P4.2).
func TestOwnMemory(t *testing.T) {
	l, v := filled(6), filled(3)
	spoil := func(told []int) {
		told = told[:cap(told)]
		for at := range told {
			told[at]++
		}
	}
	for _, many := range []int{0, 1, 3} {
		told, _ := stack.Push(l, 9, v[:many]...)
		spoil(told)
	}
	onNone, _ := stack.Push(nil, 9, v...)
	spoil(onNone)
	for many := range 7 {
		left, taken, _ := stack.Pop(l, many)
		spoil(left)
		if !slices.Equal(taken, l[6-many:]) {
			t.Errorf("%d popped: %v", many, taken)
		}
		spoil(taken)
	}
	for n := range 6 {
		told, _ := stack.Roll(l, n)
		spoil(told)
	}
	if !same(l, filled(6)) || !same(v, filled(3)) {
		t.Errorf("%v, %v", l[:cap(l)], v[:cap(v)])
	}
}

// TestOnAndOn pushes twice on one list that came of Pop, and appends to it: each list that was told earlier stays (P4.1).
func TestOnAndOn(t *testing.T) {
	left, taken, _ := stack.Pop(filled(6), 2)
	wasLeft, wasTaken := slices.Clone(left), slices.Clone(taken)
	one, _ := stack.Push(left, 9, 1, 2)
	two, _ := stack.Push(left, 9, 3, 4)
	three := append(left, 5, 6)
	if !slices.Equal(one, append(slices.Clone(wasLeft), 1, 2)) || !slices.Equal(two, append(slices.Clone(wasLeft), 3, 4)) || !slices.Equal(three, append(slices.Clone(wasLeft), 5, 6)) {
		t.Errorf("%v, %v, %v", one, two, three)
	}
	if !slices.Equal(left, wasLeft) || !slices.Equal(taken, wasTaken) {
		t.Errorf("%v, %v", left, taken)
	}
}

// TestPushOfItself lays a part of a list on that very list, the room behind it too (P4.1).
func TestPushOfItself(t *testing.T) {
	l, was := filled(4), filled(4)
	told, thrown := stack.Push(l[:2], 9, l[1:]...)
	if want := []int{was[0], was[1], was[1], was[2], was[3]}; !slices.Equal(told, want) || thrown != 0 {
		t.Errorf("%v, %d", told, thrown)
	}
	if !same(l, was) {
		t.Errorf("handed in, it is %v now", l)
	}
}

// TestDeepest has as many values as the deepest stack of a machine (P4.1, P4.2).
func TestDeepest(t *testing.T) {
	l := filled(api.MaxDepth)
	told, thrown := stack.Push(l[:api.MaxDepth-1], api.MaxDepth, l[api.MaxDepth-1])
	if !slices.Equal(told, l) || thrown != 0 {
		t.Fatalf("%d values, %d", len(told), thrown)
	}
	if told, thrown := stack.Push(told, api.MaxDepth, 1); told != nil || thrown != api.Over {
		t.Errorf("%d values, %d", len(told), thrown)
	}
	if v, thrown := stack.Pick(told, api.MaxDepth-1); v != l[0] || thrown != 0 {
		t.Errorf("%d, %d", v, thrown)
	}
	rolled, thrown := stack.Roll(told, api.MaxDepth-1)
	if !slices.Equal(rolled, append(slices.Clone(l[1:]), l[0])) || thrown != 0 {
		t.Errorf("%v, %d", rolled, thrown)
	}
	if left, taken, thrown := stack.Pop(told, api.MaxDepth); len(left) != 0 || !slices.Equal(taken, l) || thrown != 0 {
		t.Errorf("%v, %v, %d", left, taken, thrown)
	}
}
