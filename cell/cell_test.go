package cell_test

import (
	"math"
	"math/big"
	"testing"

	"nostos/cell"
)

// edges are the cells at which signs, halves and carries change.
var edges = []int{
	math.MinInt, math.MinInt + 1, math.MinInt + 2, math.MinInt / 2, math.MinInt/2 - 1, math.MinInt/2 + 1,
	-1<<32 - 1, -1 << 32, -1<<32 + 1, -1 << 31, -65537, -65536, -129, -128, -65, -64, -63, -10, -8, -7, -5, -4, -3, -2, -1,
	0, 1, 2, 3, 4, 5, 7, 8, 10, 63, 64, 65, 127, 128, 256, 65536, 65537, 1 << 31, 1<<32 - 1, 1 << 32, 1<<32 + 1,
	math.MaxInt/2 - 1, math.MaxInt / 2, math.MaxInt/2 + 1, math.MaxInt - 2, math.MaxInt - 1, math.MaxInt,
}

func whole(n int) *big.Int { return big.NewInt(int64(n)) }

// unsigned is a cell without its sign, by the words of the chapter.
func unsigned(n int) *big.Int {
	b := whole(n)
	if n < 0 {
		b.Add(b, new(big.Int).Lsh(whole(1), 64))
	}
	return b
}

// around is the cell to which a whole number goes round.
func around(n *big.Int) int {
	ring := new(big.Int).Lsh(whole(1), 64)
	m := new(big.Int).Mod(n, ring)
	if m.Bit(63) == 1 {
		m.Sub(m, ring)
	}
	return int(m.Int64())
}

// P1.1
func TestFlag(t *testing.T) {
	if n := cell.Flag(true); n != -1 {
		t.Errorf("true: %d", n)
	}
	if n := cell.Flag(false); n != 0 {
		t.Errorf("false: %d", n)
	}
}

// P1.1
func TestBelow(t *testing.T) {
	for _, c := range []struct {
		a, b int
		want bool
	}{
		{1, 2, true}, {2, 1, false}, {2, 2, false}, {0, 0, false},
		{-2, -1, true}, {-1, -2, false}, {-1, -1, false},
		{1, -1, true}, {-1, 1, false}, {0, -1, true}, {-1, 0, false},
		{math.MaxInt, math.MinInt, true}, {math.MinInt, math.MaxInt, false},
		{0, math.MinInt, true}, {math.MinInt, -1, true}, {math.MinInt, 0, false},
	} {
		if is := cell.Below(c.a, c.b); is != c.want {
			t.Errorf("%d, %d: %v", c.a, c.b, is)
		}
	}
	for _, a := range edges {
		for _, b := range edges {
			if is := cell.Below(a, b); is != (unsigned(a).Cmp(unsigned(b)) < 0) {
				t.Errorf("%d, %d: %v", a, b, is)
			}
		}
	}
}

// P1.1
func TestWithin(t *testing.T) {
	for _, c := range []struct {
		x, from, to int
		want        bool
	}{
		{3, 3, 5, true}, {4, 3, 5, true}, {5, 3, 5, false}, {2, 3, 5, false}, {-4, 3, 5, false},
		{-1, -2, 1, true}, {0, -2, 1, true}, {1, -2, 1, false}, {-3, -2, 1, false},
		{4, 5, 5, false}, {5, 5, 5, false}, {6, 5, 5, false},
		{9, 5, 1, true}, {5, 5, 1, true}, {0, 5, 1, true}, {-9, 5, 1, true}, {1, 5, 1, false}, {3, 5, 1, false},
		{math.MinInt, math.MaxInt, math.MinInt + 1, true}, {math.MaxInt, math.MaxInt, math.MinInt, true},
		{math.MinInt, math.MaxInt, math.MinInt, false}, {math.MaxInt, math.MinInt, math.MaxInt, false},
	} {
		if is := cell.Within(c.x, c.from, c.to); is != c.want {
			t.Errorf("%d from %d to %d: %v", c.x, c.from, c.to, is)
		}
	}
}

// P1.1
func TestWithinOfEdges(t *testing.T) {
	ring := new(big.Int).Lsh(whole(1), 64)
	for _, from := range edges {
		for _, to := range edges {
			width := new(big.Int).Sub(whole(to), whole(from))
			width.Mod(width, ring)
			for _, x := range edges {
				way := new(big.Int).Sub(whole(x), whole(from))
				way.Mod(way, ring)
				if is := cell.Within(x, from, to); is != (way.Cmp(width) < 0) {
					t.Fatalf("%d from %d to %d: %v", x, from, to, is)
				}
			}
		}
	}
}

// P1.3
func TestShifts(t *testing.T) {
	for _, c := range []struct{ a, n, left, right int }{
		{3, 2, 12, 0}, {12, 2, 48, 3}, {12, 0, 12, 12}, {-12, 0, -12, -12}, {0, 5, 0, 0},
		{8, 3, 64, 1}, {-8, 3, -64, 1<<61 - 1}, {-1, 1, -2, math.MaxInt},
		{1, 62, 1 << 62, 0}, {1, 63, math.MinInt, 0}, {2, 63, 0, 0}, {-1, 63, math.MinInt, 1},
		{math.MinInt, 1, 0, 1 << 62}, {math.MinInt, 63, 0, 1}, {math.MaxInt, 1, -2, 1<<62 - 1},
	} {
		if l := cell.Left(c.a, c.n); l != c.left {
			t.Errorf("%d to the left by %d: %d", c.a, c.n, l)
		}
		if r := cell.Right(c.a, c.n); r != c.right {
			t.Errorf("%d to the right by %d: %d", c.a, c.n, r)
		}
	}
}

// TestShiftsTooFar has counts whose low bits are a shift, too: all of a count matters (P1.3).
func TestShiftsTooFar(t *testing.T) {
	for _, n := range []int{64, 65, 127, 128, 256, 257, 1 << 16, 1<<16 + 1, 1 << 32, 1<<32 + 1, math.MaxInt, -1, -2, -63, -64, -1 << 32, math.MinInt, math.MinInt + 1} {
		for _, a := range edges {
			if l, r := cell.Left(a, n), cell.Right(a, n); l != 0 || r != 0 {
				t.Errorf("%d by %d: %d, %d", a, n, l, r)
			}
		}
	}
}

// TestShiftsOfEdges holds each shift against products and quotients by powers of 2, of cells without their signs (P1.3).
func TestShiftsOfEdges(t *testing.T) {
	for _, a := range edges {
		for n := range 64 {
			power := new(big.Int).Lsh(whole(1), uint(n))
			if l := cell.Left(a, n); l != around(new(big.Int).Mul(whole(a), power)) {
				t.Errorf("%d to the left by %d: %d", a, n, l)
			}
			if r := cell.Right(a, n); r != around(new(big.Int).Quo(unsigned(a), power)) {
				t.Errorf("%d to the right by %d: %d", a, n, r)
			}
		}
	}
}
