package alu_test

import (
	"math"
	"slices"
	"strings"
	"testing"

	"nostos/alu"
	"nostos/ops"
)

type l = []int

const (
	least    = math.MinInt
	greatest = math.MaxInt
	nan      = 0x7FF8000000000000
	minus0   = math.MinInt
	infinity = 0x7FF0000000000000
	minusInf = infinity + math.MinInt
)

// bits is the cell of a float.
func bits(x float64) int { return int(math.Float64bits(x)) }

// ends are the cells at which things turn.
var ends = l{0, 1, -1, least, greatest}

// cells are the ends, and others around them.
func cells() []int {
	return append(slices.Clone(ends), 2, -2, 3, 7, -7, 8, 63, 64, 65, -64, 255, 1<<31, -1<<31, 1<<32, 1<<61, 1<<62, -1<<62, least+1, greatest-1)
}

// floats are noughts, infinities, and numbers of both signs, those around the least and the greatest cell among them, and NaNs.
func floats() []int {
	all := l{infinity, minusInf, nan, nan + 1, nan + least, infinity + 1, minusInf + 1}
	for _, x := range []float64{0, 0.5, 1, 2.5, 4, 1<<53 + 2, 1 << 62, 1<<63 - 1024, 1 << 63, 1<<63 + 2048, 1 << 64, 1e300, math.MaxFloat64, math.SmallestNonzeroFloat64} {
		all = append(all, bits(x), bits(-x), bits(math.Copysign(x, -1)))
	}
	slices.Sort(all)
	return slices.Compact(all)
}

// tuples are all lists of so many of some values.
func tuples(of []int, many int) [][]int {
	all := [][]int{{}}
	for range many {
		var longer [][]int
		for _, v := range of {
			for _, short := range all {
				longer = append(longer, append(slices.Clone(short), v))
			}
		}
		all = longer
	}
	return all
}

// P9.1
func TestDo(t *testing.T) {
	for _, c := range []struct {
		name         string
		before, then []int
	}{
		{"DUP", l{1, 2}, l{1, 2, 2}}, {"DUP", l{0}, l{0, 0}},
		{"DROP", l{1, 2}, l{1}}, {"DROP", l{1}, nil},
		{"SWAP", l{1, 2, 3}, l{1, 3, 2}},
		{"OVER", l{1, 2, 3}, l{1, 2, 3, 2}},
		{"ROT", l{1, 2, 3, 4}, l{1, 3, 4, 2}},
		{"NIP", l{1, 2, 3}, l{1, 3}},
		{"TUCK", l{1, 2, 3}, l{1, 3, 2, 3}},
		{"?DUP", l{1, 2}, l{1, 2, 2}}, {"?DUP", l{1, 0}, l{1, 0}}, {"?DUP", l{least}, l{least, least}},
		{"2DUP", l{1, 2, 3}, l{1, 2, 3, 2, 3}},
		{"2DROP", l{1, 2, 3}, l{1}}, {"2DROP", l{1, 2}, nil},
		{"2SWAP", l{1, 2, 3, 4, 5}, l{1, 4, 5, 2, 3}},
		{"2OVER", l{1, 2, 3, 4, 5}, l{1, 2, 3, 4, 5, 2, 3}},
		{"PICK", l{7, 8, 9, 0}, l{7, 8, 9, 9}}, {"PICK", l{7, 8, 9, 1}, l{7, 8, 9, 8}}, {"PICK", l{7, 8, 9, 2}, l{7, 8, 9, 7}},
		{"ROLL", l{7, 8, 9, 0}, l{7, 8, 9}}, {"ROLL", l{7, 8, 9, 1}, l{7, 9, 8}}, {"ROLL", l{7, 8, 9, 2}, l{8, 9, 7}},
		{"DEPTH", nil, l{0}}, {"DEPTH", l{7}, l{7, 1}}, {"DEPTH", l{7, 7, 7}, l{7, 7, 7, 3}},
		{"+", l{1, 2}, l{3}}, {"+", l{greatest, 1}, l{least}}, {"+", l{least, least}, l{0}},
		{"-", l{1, 2}, l{-1}}, {"-", l{least, 1}, l{greatest}}, {"-", l{0, least}, l{least}},
		{"*", l{-3, 2}, l{-6}}, {"*", l{greatest, 2}, l{-2}}, {"*", l{least, -1}, l{least}}, {"*", l{1 << 32, 1 << 32}, l{0}},
		{"/", l{-7, 2}, l{-4}}, {"/", l{7, -2}, l{-4}}, {"/", l{least, -1}, l{least}},
		{"MOD", l{-7, 2}, l{1}}, {"MOD", l{7, -2}, l{-1}}, {"MOD", l{least, -1}, l{0}},
		{"/MOD", l{-7, 2}, l{1, -4}}, {"/MOD", l{7, 2}, l{1, 3}}, {"/MOD", l{least, -1}, l{0, least}},
		{"*/", l{1 << 62, 4, 8}, l{1 << 61}}, {"*/", l{-5, 3, 4}, l{-4}}, {"*/", l{least, -1, -1}, l{least}},
		{"*/MOD", l{1 << 62, 4, 8}, l{0, 1 << 61}}, {"*/MOD", l{-5, 3, 4}, l{1, -4}}, {"*/MOD", l{5, 3, 4}, l{3, 3}},
		{"1+", l{-1}, l{0}}, {"1+", l{greatest}, l{least}},
		{"1-", l{0}, l{-1}}, {"1-", l{least}, l{greatest}},
		{"2*", l{-3}, l{-6}}, {"2*", l{greatest}, l{-2}}, {"2*", l{least}, l{0}},
		{"NEGATE", l{3}, l{-3}}, {"NEGATE", l{least}, l{least}},
		{"2/", l{7}, l{3}}, {"2/", l{-7}, l{-4}}, {"2/", l{-1}, l{-1}}, {"2/", l{least}, l{-1 << 62}},
		{"ABS", l{3}, l{3}}, {"ABS", l{-3}, l{3}}, {"ABS", l{least}, l{least}},
		{"MIN", l{2, -3}, l{-3}}, {"MIN", l{-3, 2}, l{-3}}, {"MAX", l{2, -3}, l{2}}, {"MAX", l{-3, 2}, l{2}},
		{"AND", l{12, 10}, l{8}}, {"OR", l{12, 10}, l{14}}, {"XOR", l{12, 10}, l{6}}, {"AND", l{-1, least}, l{least}},
		{"INVERT", l{0}, l{-1}}, {"INVERT", l{greatest}, l{least}},
		{"LSHIFT", l{3, 2}, l{12}}, {"LSHIFT", l{1, 63}, l{least}}, {"LSHIFT", l{-1, 64}, l{0}}, {"LSHIFT", l{1, -1}, l{0}},
		{"RSHIFT", l{12, 2}, l{3}}, {"RSHIFT", l{-1, 63}, l{1}}, {"RSHIFT", l{-1, 64}, l{0}}, {"RSHIFT", l{1, -1}, l{0}},
		{"=", l{2, 2}, l{-1}}, {"=", l{2, 3}, l{0}}, {"<>", l{2, 2}, l{0}}, {"<>", l{2, 3}, l{-1}},
		{"<", l{2, 3}, l{-1}}, {"<", l{3, 2}, l{0}}, {"<", l{2, 2}, l{0}}, {"<", l{least, greatest}, l{-1}},
		{">", l{2, 3}, l{0}}, {">", l{3, 2}, l{-1}}, {">", l{2, 2}, l{0}}, {">", l{least, greatest}, l{0}},
		{"U<", l{2, 3}, l{-1}}, {"U<", l{-1, 1}, l{0}}, {"U<", l{1, -1}, l{-1}}, {"U<", l{2, 2}, l{0}},
		{"0=", l{0}, l{-1}}, {"0=", l{1}, l{0}}, {"0<>", l{0}, l{0}}, {"0<>", l{1}, l{-1}},
		{"0<", l{-1}, l{-1}}, {"0<", l{0}, l{0}}, {"0<", l{1}, l{0}}, {"0>", l{-1}, l{0}}, {"0>", l{0}, l{0}}, {"0>", l{1}, l{-1}},
		{"WITHIN", l{2, 2, 4}, l{-1}}, {"WITHIN", l{4, 2, 4}, l{0}}, {"WITHIN", l{1, 2, 4}, l{0}}, {"WITHIN", l{5, 4, 2}, l{-1}}, {"WITHIN", l{3, 4, 2}, l{0}},
		{"TRUE", nil, l{-1}}, {"TRUE", l{5}, l{5, -1}}, {"FALSE", nil, l{0}}, {"FALSE", l{5}, l{5, 0}},
		{"CELLS", l{3}, l{24}}, {"CELLS", l{-1}, l{-8}}, {"CELLS", l{1 << 61}, l{0}}, {"CELL+", l{3}, l{11}}, {"CELL+", l{greatest}, l{least + 7}},
	} {
		if then, thrown, is := alu.Do(ops.Find(c.name), c.before, 16); !slices.Equal(then, c.then) || thrown != 0 || !is {
			t.Errorf("%s of %v: %v, %d, %v, not %v", c.name, c.before, then, thrown, is, c.then)
		}
	}
}

// TestDoFloats has the words on floats (P9.1).
func TestDoFloats(t *testing.T) {
	for _, c := range []struct {
		name         string
		before, then []int
	}{
		{"F+", l{bits(1.5), bits(-4)}, l{bits(-2.5)}}, {"F+", l{infinity, minusInf}, l{nan}}, {"F+", l{0, minus0}, l{0}},
		{"F-", l{bits(1.5), bits(4)}, l{bits(-2.5)}}, {"F-", l{minus0, 0}, l{minus0}}, {"F-", l{infinity, infinity}, l{nan}},
		{"F*", l{bits(1.5), bits(-4)}, l{bits(-6)}}, {"F*", l{0, infinity}, l{nan}}, {"F*", l{0, bits(-1)}, l{minus0}},
		{"F/", l{bits(1.5), bits(-4)}, l{bits(-0.375)}}, {"F/", l{bits(1), minus0}, l{minusInf}}, {"F/", l{0, 0}, l{nan}},
		{"FMIN", l{bits(1), bits(2)}, l{bits(1)}}, {"FMIN", l{0, minus0}, l{minus0}}, {"FMIN", l{bits(1), nan + 1}, l{nan}},
		{"FMAX", l{bits(1), bits(2)}, l{bits(2)}}, {"FMAX", l{minus0, 0}, l{0}}, {"FMAX", l{nan + 1, bits(1)}, l{nan}},
		{"FNEGATE", l{bits(2.5)}, l{bits(-2.5)}}, {"FNEGATE", l{0}, l{minus0}}, {"FNEGATE", l{infinity}, l{minusInf}}, {"FNEGATE", l{nan + least}, l{nan}},
		{"FABS", l{bits(-2.5)}, l{bits(2.5)}}, {"FABS", l{minus0}, l{0}}, {"FABS", l{minusInf}, l{infinity}}, {"FABS", l{nan + least}, l{nan}},
		{"FSQRT", l{bits(2.25)}, l{bits(1.5)}}, {"FSQRT", l{minus0}, l{minus0}}, {"FSQRT", l{bits(-4)}, l{nan}}, {"FSQRT", l{infinity}, l{infinity}},
		{"FLOOR", l{bits(2.5)}, l{bits(2)}}, {"FLOOR", l{bits(-2.5)}, l{bits(-3)}}, {"FLOOR", l{minus0}, l{minus0}}, {"FLOOR", l{minusInf}, l{minusInf}},
		{"F<", l{bits(1), bits(2)}, l{-1}}, {"F<", l{bits(2), bits(1)}, l{0}}, {"F<", l{minus0, 0}, l{0}}, {"F<", l{bits(-2), bits(-1)}, l{-1}}, {"F<", l{nan, infinity}, l{0}},
		{"F=", l{bits(1), bits(1)}, l{-1}}, {"F=", l{bits(1), bits(2)}, l{0}}, {"F=", l{minus0, 0}, l{-1}}, {"F=", l{nan, nan}, l{0}},
		{"S>F", l{-7}, l{bits(-7)}}, {"S>F", l{0}, l{0}}, {"S>F", l{greatest}, l{bits(1 << 63)}}, {"S>F", l{1<<53 + 1}, l{bits(1 << 53)}},
		{"F>S", l{bits(-2.5)}, l{-2}}, {"F>S", l{bits(2.5)}, l{2}}, {"F>S", l{minus0}, l{0}}, {"F>S", l{bits(-1 << 63)}, l{least}}, {"F>S", l{1}, l{0}},
	} {
		for _, below := range [][]int{nil, {-9}, {nan, minus0}} {
			before, want := slices.Concat(below, c.before), slices.Concat(below, c.then)
			if then, thrown, is := alu.Do(ops.Find(c.name), before, 16); !slices.Equal(then, want) || thrown != 0 || !is {
				t.Errorf("%s of %x: %x, %d, %v, not %x", c.name, before, then, thrown, is, want)
			}
		}
	}
}

// TestTable has each word at all values, as many as it takes, and with others below (P9.1, P9.2).
func TestTable(t *testing.T) {
	all := append(cells(), floats()...)
	of := [][]int{all, all, all, cells(), ends}
	for _, r := range table {
		r.checkAll(t, tuples(of[r.takes], r.takes))
	}
}

// checkAll does a word with some lists of values, alone, and on others, till it does one otherwise than the table has it.
func (r row) checkAll(t *testing.T, lists [][]int) {
	op := r.op()
	for _, v := range lists {
		for _, below := range [][]int{nil, {41, -42}, {0, least, -1, greatest, 1}} {
			if !r.check(t, op, slices.Concat(below, v), 16) {
				return
			}
		}
	}
}

// TestPickAndRoll has all numbers in and around stacks, and at the ends of all (P9.1, P9.2).
func TestPickAndRoll(t *testing.T) {
	for _, r := range table {
		if r.name != "PICK" && r.name != "ROLL" {
			continue
		}
		for many := range 9 {
			numbers := l{least, least + 1, least + many, -1 << 32, 1 << 32, greatest - many, greatest - 1, greatest}
			for n := -many - 3; n < many+4; n++ {
				numbers = append(numbers, n)
			}
			for _, n := range numbers {
				r.check(t, r.op(), append(filled(many), n), 16)
			}
		}
	}
}

// filled are so many values, no two the same.
func filled(many int) []int {
	var all []int
	for n := range many {
		all = append(all, n*1000003-7)
	}
	return all
}

// TestNumbers has the words of the table by their numbers, and each number that is none of theirs (P9.1).
func TestNumbers(t *testing.T) {
	is := map[int]string{}
	for _, r := range table {
		is[r.op()] = r.name
	}
	if len(is) != 65 || is[0] != "" || is[13] != "DUP" || is[77] != "F>S" {
		t.Fatalf("%d words: %v", len(is), is)
	}
	others := l{least, least + 1, -1 << 32, -138, -77, -13, 1000, 256 + 13, 1<<16 + 13, 1<<32 + 13, greatest - 1, greatest}
	for op := -20; op <= 300; op++ {
		others = append(others, op)
	}
	for _, op := range others {
		for many := range 8 {
			for _, depth := range []int{16, many, 0, -1, least, greatest} {
				handed := roomy(filled(many))
				then, thrown, ok := alu.Do(op, handed, depth)
				if ok != (is[op] != "") {
					t.Errorf("%d of %d values, depth %d: %v", op, many, depth, ok)
				}
				if !ok && (then != nil || thrown != 0) {
					t.Errorf("%d of %d values, depth %d: false, beside %v and %d", op, many, depth, then, thrown)
				}
				if !slices.Equal(whole(handed), whole(roomy(filled(many)))) {
					t.Errorf("%d of %d values, depth %d: handed in, it is %v now", op, many, depth, whole(handed))
				}
			}
		}
	}
}

// TestOthers has all words that ask for something else than the data stack (P9.1).
func TestOthers(t *testing.T) {
	for _, name := range strings.Fields("EXIT COMPILE, @ ! +! C@ C! HERE ALLOT , C, ALIGN BASE DECIMAL HEX >R R> R@ I J UNLOOP LEAVE IF ELSE THEN : ; ' LITERAL [ ] EXECUTE CHAR EMIT CR SPACE . TYPE KEY THROW ABORT") {
		if then, thrown, is := alu.Do(ops.Find(name), l{1, 2, 3, 4}, 16); then != nil || thrown != 0 || is {
			t.Errorf("%s: %v, %d, %v", name, then, thrown, is)
		}
	}
}
