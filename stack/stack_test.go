package stack_test

import (
	"math"
	"slices"
	"testing"

	"nostos/stack"
)

// P4.1
func TestPush(t *testing.T) {
	for _, c := range []struct {
		l      []int
		depth  int
		v      []int
		want   []int
		thrown int
		what   string
	}{
		{[]int{1, 2}, 8, []int{3}, []int{1, 2, 3}, 0, "one"},
		{[]int{1, 2}, 8, []int{3, 4, 5}, []int{1, 2, 3, 4, 5}, 0, "some, in turn, the last one on top"},
		{[]int{1, 2}, 5, []int{3, 4, 5}, []int{1, 2, 3, 4, 5}, 0, "just as many as depth"},
		{[]int{1, 2}, 4, []int{3, 4, 5}, nil, -3, "one more than depth"},
		{[]int{1, 2}, 3, []int{3, 4, 5}, nil, -3, "two more than depth"},
		{[]int{1, 2}, 8, nil, []int{1, 2}, 0, "none"},
		{[]int{1, 2}, 8, []int{}, []int{1, 2}, 0, "none, by an empty list"},
		{[]int{1, 2}, 2, nil, []int{1, 2}, 0, "none, on as many as depth"},
		{[]int{1, 2}, 1, nil, nil, -3, "none, on more than depth already"},
		{[]int{1, 2}, 1, []int{3}, nil, -3, "one, on more than depth already"},
		{[]int{1, 2}, 0, nil, nil, -3, "none, and a depth of 0"},
		{nil, 8, []int{3, 4}, []int{3, 4}, 0, "on nil"},
		{[]int{}, 8, []int{3, 4}, []int{3, 4}, 0, "on an empty list"},
		{nil, 2, []int{3, 4}, []int{3, 4}, 0, "on nil, as many as depth"},
		{nil, 1, []int{3, 4}, nil, -3, "on nil, one more than depth"},
		{nil, 0, nil, nil, 0, "none on nil, and a depth of 0"},
		{[]int{}, 0, []int{}, nil, 0, "none on an empty list, and a depth of 0"},
		{nil, 0, []int{3}, nil, -3, "one on nil, and a depth of 0"},
		{nil, -1, nil, nil, -3, "none on nil, and a depth below 0"},
		{nil, -1, []int{3}, nil, -3, "one on nil, and a depth below 0"},
		{[]int{1}, -1, nil, nil, -3, "a depth below 0"},
		{nil, math.MinInt, nil, nil, -3, "none on nil, and the least depth"},
		{[]int{1}, math.MinInt, []int{2}, nil, -3, "the least depth"},
		{[]int{1}, math.MaxInt, []int{2}, []int{1, 2}, 0, "the greatest depth"},
		{nil, math.MaxInt, nil, nil, 0, "none on nil, and the greatest depth"},
		{[]int{math.MinInt, -1}, 8, []int{math.MaxInt, 0, -1}, []int{math.MinInt, -1, math.MaxInt, 0, -1}, 0, "values at the ends, and one twice"},
	} {
		if told, thrown := stack.Push(c.l, c.depth, c.v...); !slices.Equal(told, c.want) || thrown != c.thrown {
			t.Errorf("%s: %v on %v, depth %d: %v, %d", c.what, c.v, c.l, c.depth, told, thrown)
		}
	}
}

// TestPushOneByOne hands values in as they are written in a call (P4.1).
func TestPushOneByOne(t *testing.T) {
	if told, thrown := stack.Push([]int{1}, 4, 2, 3, 4); !slices.Equal(told, []int{1, 2, 3, 4}) || thrown != 0 {
		t.Errorf("three: %v, %d", told, thrown)
	}
	if told, thrown := stack.Push([]int{1}, 1); !slices.Equal(told, []int{1}) || thrown != 0 {
		t.Errorf("none: %v, %d", told, thrown)
	}
	if told, thrown := stack.Push([]int{1}, 3, 2, 3, 4); told != nil || thrown != -3 {
		t.Errorf("too many: %v, %d", told, thrown)
	}
}

// P4.1
func TestPop(t *testing.T) {
	l := []int{1, 2, 3, 4}
	for _, c := range []struct {
		l           []int
		many        int
		left, taken []int
		thrown      int
		what        string
	}{
		{l, 1, []int{1, 2, 3}, []int{4}, 0, "one"},
		{l, 2, []int{1, 2}, []int{3, 4}, 0, "two, in turn, the top last"},
		{l, 3, []int{1}, []int{2, 3, 4}, 0, "all but one"},
		{l, 4, nil, []int{1, 2, 3, 4}, 0, "all"},
		{l, 0, []int{1, 2, 3, 4}, nil, 0, "none"},
		{l, 5, nil, nil, -4, "one more than all"},
		{l, 6, nil, nil, -4, "two more than all"},
		{l, math.MaxInt, nil, nil, -4, "the greatest number"},
		{l, -1, nil, nil, -4, "below 0"},
		{l, -4, nil, nil, -4, "below 0, by as many as there are"},
		{l, math.MinInt, nil, nil, -4, "the least number"},
		{l, math.MinInt + 4, nil, nil, -4, "so far above the least number as there are"},
		{nil, 0, nil, nil, 0, "none of nil"},
		{[]int{}, 0, nil, nil, 0, "none of an empty list"},
		{nil, 1, nil, nil, -4, "one of nil"},
		{[]int{}, 1, nil, nil, -4, "one of an empty list"},
		{nil, -1, nil, nil, -4, "below 0, of nil"},
		{nil, math.MaxInt, nil, nil, -4, "the greatest number, of nil"},
		{nil, math.MinInt, nil, nil, -4, "the least number, of nil"},
		{[]int{7}, 1, nil, []int{7}, 0, "the only one"},
	} {
		left, taken, thrown := stack.Pop(c.l, c.many)
		if !slices.Equal(left, c.left) || !slices.Equal(taken, c.taken) || thrown != c.thrown {
			t.Errorf("%s: %d of %v: %v, %v, %d", c.what, c.many, c.l, left, taken, thrown)
		}
	}
}

// P4.2
func TestPick(t *testing.T) {
	l := []int{11, -22, 33, math.MinInt}
	for _, c := range []struct {
		l         []int
		n         int
		v, thrown int
		what      string
	}{
		{l, 0, math.MinInt, 0, "the top"},
		{l, 1, 33, 0, "one above it"},
		{l, 2, -22, 0, "two above it"},
		{l, 3, 11, 0, "the lowest"},
		{l, 4, 0, -4, "one more"},
		{l, 5, 0, -4, "two more"},
		{l, math.MaxInt, 0, -4, "the greatest number"},
		{l, -1, 0, -4, "below 0"},
		{l, -4, 0, -4, "below 0, by as many as there are"},
		{l, -5, 0, -4, "further below 0"},
		{l, math.MinInt, 0, -4, "the least number"},
		{l, math.MinInt + 3, 0, -4, "near the least number"},
		{nil, 0, 0, -4, "nil"},
		{[]int{}, 0, 0, -4, "an empty list"},
		{nil, 1, 0, -4, "nil, one above it"},
		{nil, -1, 0, -4, "nil, below 0"},
		{nil, math.MinInt, 0, -4, "nil, the least number"},
		{nil, math.MaxInt, 0, -4, "nil, the greatest number"},
		{[]int{7}, 0, 7, 0, "the only one"},
		{[]int{7}, 1, 0, -4, "of one, one more"},
	} {
		if v, thrown := stack.Pick(c.l, c.n); v != c.v || thrown != c.thrown {
			t.Errorf("%s: %d of %v: %d, %d", c.what, c.n, c.l, v, thrown)
		}
	}
}

// P4.2
func TestRoll(t *testing.T) {
	l := []int{1, 2, 3, 4}
	for _, c := range []struct {
		l      []int
		n      int
		want   []int
		thrown int
		what   string
	}{
		{[]int{1, 2, 3}, 2, []int{2, 3, 1}, 0, "the chapter's example"},
		{l, 0, []int{1, 2, 3, 4}, 0, "the top"},
		{l, 1, []int{1, 2, 4, 3}, 0, "one above it"},
		{l, 2, []int{1, 3, 4, 2}, 0, "two above it"},
		{l, 3, []int{2, 3, 4, 1}, 0, "the lowest"},
		{l, 4, nil, -4, "one more"},
		{l, 5, nil, -4, "two more"},
		{l, math.MaxInt, nil, -4, "the greatest number"},
		{l, -1, nil, -4, "below 0"},
		{l, -4, nil, -4, "below 0, by as many as there are"},
		{l, math.MinInt, nil, -4, "the least number"},
		{l, math.MinInt + 3, nil, -4, "near the least number"},
		{nil, 0, nil, -4, "nil"},
		{[]int{}, 0, nil, -4, "an empty list"},
		{nil, 1, nil, -4, "nil, one above it"},
		{nil, -1, nil, -4, "nil, below 0"},
		{nil, math.MinInt, nil, -4, "nil, the least number"},
		{nil, math.MaxInt, nil, -4, "nil, the greatest number"},
		{[]int{7}, 0, []int{7}, 0, "the only one"},
		{[]int{7}, 1, nil, -4, "of one, one more"},
		{[]int{5, 5, 6, 5}, 3, []int{5, 6, 5, 5}, 0, "the same value in more places"},
	} {
		if told, thrown := stack.Roll(c.l, c.n); !slices.Equal(told, c.want) || thrown != c.thrown {
			t.Errorf("%s: %d of %v: %v, %d", c.what, c.n, c.l, told, thrown)
		}
	}
}

// P4.3
func TestPushedIsPopped(t *testing.T) {
	for below := range 7 {
		for many := range 7 {
			l, v := filled(below), filled(below + many)[below:]
			pushed, thrown := stack.Push(l, below+many, v...)
			if thrown != 0 {
				t.Fatalf("%d on %d: %d", many, below, thrown)
			}
			left, taken, thrown := stack.Pop(pushed, many)
			if !slices.Equal(left, l) || !slices.Equal(taken, v) || thrown != 0 {
				t.Errorf("%d on %d: %v, %v, %d", many, below, left, taken, thrown)
			}
		}
	}
}

// TestPoppedIsPushed goes the other way: what was taken is laid on again (P4.3).
func TestPoppedIsPushed(t *testing.T) {
	for length := range 9 {
		l := filled(length)
		for many := range length + 1 {
			left, taken, thrown := stack.Pop(l, many)
			if thrown != 0 {
				t.Fatalf("%d of %d: %d", many, length, thrown)
			}
			if told, thrown := stack.Push(left, length, taken...); !slices.Equal(told, l) || thrown != 0 {
				t.Errorf("%d of %d: %v, %d", many, length, told, thrown)
			}
		}
	}
}

// TestRolledRound rolls as often as n and 1, and is there again then, and not before (P4.3).
func TestRolledRound(t *testing.T) {
	for length := range 10 {
		for n := range length {
			l := filled(length)
			told := l
			for turn := range n + 1 {
				if turn > 0 && slices.Equal(told, l) {
					t.Errorf("%d of %d: as before behind %d", n, length, turn)
				}
				var thrown int
				if told, thrown = stack.Roll(told, n); thrown != 0 {
					t.Fatalf("%d of %d: %d", n, length, thrown)
				}
			}
			if !slices.Equal(told, l) {
				t.Errorf("%d of %d: %v", n, length, told)
			}
		}
	}
}
