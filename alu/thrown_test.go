package alu_test

import (
	"slices"
	"testing"

	"nostos/alu"
	"nostos/ops"
)

// depths are those in and around a stack's, and those at the ends of all.
func depths(many int) []int {
	all := l{least, least + 1, -1 << 32, 1 << 32, greatest - 1, greatest}
	for depth := -3; depth < many+4; depth++ {
		all = append(all, depth)
	}
	return all
}

// TestTooSmall has each word at each stack that is too small, whatever the depth (P9.2).
func TestTooSmall(t *testing.T) {
	for _, r := range table {
		for many := range r.takes {
			for _, data := range append(tuples(l{0, 1, least, nan}, many), filled(many)) {
				for _, depth := range depths(many) {
					if then, thrown, is := alu.Do(r.op(), roomy(data), depth); then != nil || thrown != -4 || !is {
						t.Errorf("%s of %v, depth %d: %v, %d, %v", r.name, data, depth, then, thrown, is)
					}
				}
			}
		}
	}
}

// TestTooSmallOfNil has each word that takes something at no stack at all (P9.2).
func TestTooSmallOfNil(t *testing.T) {
	for _, r := range table {
		want := map[bool]int{true: -4}[r.takes > 0]
		if _, thrown, is := alu.Do(r.op(), nil, 16); thrown != want || !is {
			t.Errorf("%s: %d, %v", r.name, thrown, is)
		}
	}
}

// TestTooDeep has each word at stacks of some values, and all depths in and around what it leaves (P9.2).
func TestTooDeep(t *testing.T) {
	for _, r := range table {
		for many := range 9 {
			for _, top := range []int{0, 1, 2, least} {
				data := filled(many)
				if many > 0 {
					data[many-1] = top
				}
				for _, depth := range depths(many) {
					r.check(t, r.op(), data, depth)
				}
			}
		}
	}
}

// P9.2
func TestThrown(t *testing.T) {
	for _, c := range []struct {
		what, name string
		data       []int
		depth      int
		thrown     int
	}{
		{"nothing on the stack", "DUP", nil, 16, -4},
		{"one of two", "+", l{1}, 16, -4},
		{"two of three", "ROT", l{1, 2}, 16, -4},
		{"three of four", "2SWAP", l{1, 2, 3}, 16, -4},
		{"no number to pick by", "PICK", nil, 16, -4},
		{"nothing to pick of", "PICK", l{0}, 16, -4},
		{"one too far", "PICK", l{7, 8, 2}, 16, -4},
		{"below the top", "PICK", l{7, 8, -1}, 16, -4},
		{"no number to roll by", "ROLL", nil, 16, -4},
		{"nothing to roll", "ROLL", l{0}, 16, -4},
		{"one too far", "ROLL", l{7, 8, 2}, 16, -4},
		{"below the top", "ROLL", l{7, 8, -1}, 16, -4},
		{"by 0", "/", l{1, 0}, 16, -10},
		{"0 by 0", "/", l{0, 0}, 16, -10},
		{"by 0", "MOD", l{1, 0}, 16, -10},
		{"by 0", "/MOD", l{least, 0}, 16, -10},
		{"by 0", "*/", l{1, 1, 0}, 16, -10},
		{"by 0", "*/MOD", l{0, 0, 0}, 16, -10},
		{"a quotient above all cells", "*/", l{greatest, 2, 1}, 16, -11},
		{"a quotient below all cells", "*/", l{least, 2, 1}, 16, -11},
		{"the least cell by -1", "*/", l{least, 1, -1}, 16, -11},
		{"a quotient above all cells", "*/MOD", l{1 << 62, 2, 1}, 16, -11},
		{"a quotient of 128 bits", "*/MOD", l{least, least, 1}, 16, -11},
		{"what is no number", "F>S", l{nan}, 16, -11},
		{"what is no number, with a sign", "F>S", l{-1}, 16, -11},
		{"infinity", "F>S", l{infinity}, 16, -11},
		{"-infinity", "F>S", l{minusInf}, 16, -11},
		{"the least float above all cells", "F>S", l{bits(1 << 63)}, 16, -11},
		{"the greatest float below all cells", "F>S", l{bits(-1<<63 - 2048)}, 16, -11},
		{"one too many", "DUP", l{1, 2}, 2, -3},
		{"one too many of three", "TUCK", l{1, 2}, 2, -3},
		{"two too many", "2DUP", l{1, 2}, 2, -3},
		{"one of two too many", "2DUP", l{1, 2}, 3, -3},
		{"two too many of six", "2OVER", l{1, 2, 3, 4}, 4, -3},
		{"one too many, as it isn't 0", "?DUP", l{1}, 1, -3},
		{"how many there are, one too many", "DEPTH", l{1, 2}, 2, -3},
		{"a flag too many", "TRUE", l{1, 2}, 2, -3},
		{"a flag too many", "FALSE", nil, 0, -3},
		{"too many as before", "SWAP", l{1, 2}, 1, -3},
		{"too many, though fewer than before", "DROP", l{1, 2, 3}, 1, -3},
		{"too many, though one is left", "+", l{1, 2}, 0, -3},
		{"too many, picked", "PICK", l{7, 0}, 1, -3},
		{"too many, rolled", "ROLL", l{7, 8, 1}, 1, -3},
		{"none left, but a depth below 0", "DROP", l{1}, -1, -3},
		{"none left, but the least depth", "2DROP", l{1, 2}, least, -3},
	} {
		handed := roomy(c.data)
		if then, thrown, is := alu.Do(ops.Find(c.name), handed, c.depth); then != nil || thrown != c.thrown || !is {
			t.Errorf("%s: %s of %v, depth %d: %v, %d, %v", c.what, c.name, c.data, c.depth, then, thrown, is)
		}
		if !slices.Equal(whole(handed), whole(roomy(c.data))) {
			t.Errorf("%s: %s of %v, depth %d: handed in, it is %v now", c.what, c.name, c.data, c.depth, whole(handed))
		}
	}
}

// TestJustDeepEnough has stacks that are as deep as may be, then (P9.2).
func TestJustDeepEnough(t *testing.T) {
	for _, c := range []struct {
		name  string
		data  []int
		depth int
		then  []int
	}{
		{"DUP", l{1, 2}, 3, l{1, 2, 2}},
		{"2DUP", l{1, 2}, 4, l{1, 2, 1, 2}},
		{"2OVER", l{1, 2, 3, 4}, 6, l{1, 2, 3, 4, 1, 2}},
		{"?DUP", l{1, 0}, 2, l{1, 0}},
		{"DEPTH", l{1, 2}, 3, l{1, 2, 2}},
		{"FALSE", nil, 1, l{0}},
		{"DROP", l{1}, 0, nil},
		{"2DROP", l{1, 2}, 0, nil},
		{"DROP", l{1, 2, 3}, 2, l{1, 2}},
		{"+", l{1, 2}, 1, l{3}},
		{"PICK", l{7, 0}, 2, l{7, 7}},
		{"ROLL", l{7, 8, 1}, 2, l{8, 7}},
		{"DUP", l{1}, greatest, l{1, 1}},
	} {
		if then, thrown, is := alu.Do(ops.Find(c.name), c.data, c.depth); !slices.Equal(then, c.then) || thrown != 0 || !is {
			t.Errorf("%s of %v, depth %d: %v, %d, %v", c.name, c.data, c.depth, then, thrown, is)
		}
	}
}

// TestWhichFirst has each two things that are thrown, where both apply: the one that is named first is told (P9.2).
func TestWhichFirst(t *testing.T) {
	for _, c := range []struct {
		what, name string
		data       []int
		thrown     int
	}{
		{"too few, and too many even so", "+", l{1}, -4},
		{"none, and a depth below 0", "DUP", nil, -4},
		{"too few, and a divisor of 0", "/", l{0}, -4},
		{"too few, and a divisor of 0", "*/", l{5, 0}, -4},
		{"too few, and a product that is no cell", "*/MOD", l{greatest, greatest}, -4},
		{"nothing to pick of, and too many", "PICK", l{1, 2, 9}, -4},
		{"nothing to roll, and too many", "ROLL", l{1, 2, -1}, -4},
		{"a divisor of 0, and too many", "/", l{1, 2, 3, 0}, -10},
		{"a divisor of 0, and too many", "MOD", l{1, 2, 3, 0}, -10},
		{"a divisor of 0, and too many", "/MOD", l{1, 2, 3, 0}, -10},
		{"a divisor of 0, and too many", "*/", l{1, 2, 3, 0}, -10},
		{"a divisor of 0, and no cell", "*/", l{greatest, greatest, 0}, -10},
		{"a divisor of 0, and no cell, and too many", "*/MOD", l{1, 2, least, greatest, 0}, -10},
		{"no cell, and too many", "*/", l{1, 2, greatest, 2, 1}, -11},
		{"no cell, and too many", "*/MOD", l{1, 2, least, -1, 1}, -11},
		{"no cell, and too many", "F>S", l{1, 2, nan}, -11},
	} {
		// At these depths each of the stacks is too deep, whatever is left.
		for _, depth := range []int{0, -1, least} {
			if then, thrown, is := alu.Do(ops.Find(c.name), c.data, depth); then != nil || thrown != c.thrown || !is {
				t.Errorf("%s: %s of %v, depth %d: %v, %d, %v", c.what, c.name, c.data, depth, then, thrown, is)
			}
		}
	}
}
