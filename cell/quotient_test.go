package cell_test

import (
	"math"
	"math/big"
	"testing"

	"nostos/cell"
)

// down is the quotient of whole numbers, rounded down.
func down(a, b *big.Int) *big.Int {
	q, m := new(big.Int).QuoRem(a, b, new(big.Int))
	if m.Sign() != 0 && m.Sign() != b.Sign() {
		q.Sub(q, whole(1))
	}
	return q
}

// left is a less b times the quotient.
func left(a, b, q *big.Int) *big.Int {
	return new(big.Int).Sub(a, new(big.Int).Mul(b, q))
}

// P1.2
func TestDiv(t *testing.T) {
	for _, c := range []struct{ a, b, q, r int }{
		{7, 2, 3, 1}, {-7, 2, -4, 1}, {7, -2, -4, -1}, {-7, -2, 3, -1},
		{6, 3, 2, 0}, {-6, 3, -2, 0}, {6, -3, -2, 0}, {-6, -3, 2, 0},
		{1, 5, 0, 1}, {-1, 5, -1, 4}, {1, -5, -1, -4}, {-1, -5, 0, -1},
		{0, 5, 0, 0}, {0, -5, 0, 0}, {9, 1, 9, 0}, {9, -1, -9, 0},
		{math.MinInt, -1, math.MinInt, 0}, {math.MinInt, 1, math.MinInt, 0},
		{math.MaxInt, -1, -math.MaxInt, 0}, {math.MinInt, math.MinInt, 1, 0},
		{math.MaxInt, math.MinInt, -1, -1}, {math.MinInt, math.MaxInt, -2, math.MaxInt - 1},
		{1, math.MinInt, -1, math.MinInt + 1}, {-1, math.MaxInt, -1, math.MaxInt - 1},
		{-1, math.MinInt, 0, -1}, {math.MinInt, 2, math.MinInt / 2, 0},
		{math.MinInt, 3, -3074457345618258603, 1},
	} {
		if q, r, ok := cell.Div(c.a, c.b); q != c.q || r != c.r || !ok {
			t.Errorf("%d by %d: %d, %d, %v", c.a, c.b, q, r, ok)
		}
	}
}

// P1.2
func TestDivByNought(t *testing.T) {
	for _, a := range edges {
		if q, r, ok := cell.Div(a, 0); q != 0 || r != 0 || ok {
			t.Errorf("%d by 0: %d, %d, %v", a, q, r, ok)
		}
	}
}

// P1.2
func TestDivOfEdges(t *testing.T) {
	for _, a := range edges {
		for _, b := range edges {
			if b == 0 {
				continue
			}
			quotient := down(whole(a), whole(b))
			rest := left(whole(a), whole(b), quotient)
			q, r, ok := cell.Div(a, b)
			if q != around(quotient) || r != around(rest) || !ok {
				t.Errorf("%d by %d: %d, %d, %v", a, b, q, r, ok)
			}
		}
	}
}

// P1.2
func TestScale(t *testing.T) {
	for _, c := range []struct{ a, b, c, q, r int }{
		{1 << 62, 4, 8, 1 << 61, 0},
		{5, 3, 4, 3, 3}, {-5, 3, 4, -4, 1}, {5, -3, 4, -4, 1}, {-5, -3, 4, 3, 3},
		{5, 3, -4, -4, -1}, {-5, 3, -4, 3, -3}, {5, -3, -4, 3, -3}, {-5, -3, -4, -4, -1},
		{6, 2, 3, 4, 0}, {-6, 2, 3, -4, 0}, {6, 2, -3, -4, 0}, {-6, 2, -3, 4, 0},
		{0, 7, 3, 0, 0}, {7, 0, -3, 0, 0}, {0, -1, -5, 0, 0}, {-1, 0, 5, 0, 0},
		{1, 1, 5, 0, 1}, {-1, 1, 5, -1, 4}, {1, 1, -5, -1, -4}, {-1, 1, -5, 0, -1},
		{math.MaxInt, math.MaxInt, math.MaxInt, math.MaxInt, 0},
		{math.MinInt, math.MinInt, math.MinInt, math.MinInt, 0},
		{math.MinInt, 3, 3, math.MinInt, 0}, {math.MinInt, 1, 1, math.MinInt, 0}, {math.MinInt, -1, -1, math.MinInt, 0},
		{math.MinInt, math.MaxInt, math.MaxInt, math.MinInt, 0},
		{math.MaxInt, 1, math.MinInt, -1, -1},
	} {
		if q, r, ok := cell.Scale(c.a, c.b, c.c); q != c.q || r != c.r || !ok {
			t.Errorf("%d and %d by %d: %d, %d, %v", c.a, c.b, c.c, q, r, ok)
		}
	}
}

// TestScaleAtTheEnds has products that are three times 2^63 or 2^64, or 1 beside that: the last quotients that are cells, and the first ones that are none, some of them by rounding alone (P1.2).
func TestScaleAtTheEnds(t *testing.T) {
	for _, c := range []struct {
		a, b, c, q, r int
		ok            bool
	}{
		{311, 88971434439113593, 3, math.MaxInt, 2, true},
		{311, -88971434439113593, -3, math.MaxInt, -2, true},
		{311, -88971434439113593, 3, math.MinInt, 1, true},
		{311, 88971434439113593, -3, math.MinInt, -1, true},
		{-4, 6917529027641081856, 3, math.MinInt, 0, true},
		{4, 6917529027641081856, -3, math.MinInt, 0, true},
		{4, 6917529027641081856, 3, 0, 0, false},
		{-4, 6917529027641081856, -3, 0, 0, false},
		{-5, 5534023222112865485, 3, 0, 0, false},
		{5, 5534023222112865485, -3, 0, 0, false},
		{5, 5534023222112865485, 3, 0, 0, false},
		{9, 6148914691236517205, 3, 0, 0, false},
		{9, 6148914691236517205, -3, 0, 0, false},
		{311, 177942868878227186, 3, 0, 0, false},
		{311, -177942868878227186, 3, 0, 0, false},
		{311, 177942868878227186, -3, 0, 0, false},
		{math.MaxInt, 2, 1, 0, 0, false},
		{math.MinInt, 2, 1, 0, 0, false},
		{math.MinInt, -1, 1, 0, 0, false},
		{math.MinInt, 1, -1, 0, 0, false},
		{math.MinInt, math.MinInt, 1, 0, 0, false},
		{math.MinInt, math.MinInt, -1, 0, 0, false},
		{math.MinInt, math.MinInt, math.MaxInt, 0, 0, false},
		{math.MaxInt, math.MaxInt, -2, 0, 0, false},
	} {
		if q, r, ok := cell.Scale(c.a, c.b, c.c); q != c.q || r != c.r || ok != c.ok {
			t.Errorf("%d and %d by %d: %d, %d, %v", c.a, c.b, c.c, q, r, ok)
		}
	}
}

// P1.2
func TestScaleByNought(t *testing.T) {
	for _, a := range edges {
		for _, b := range edges {
			if q, r, ok := cell.Scale(a, b, 0); q != 0 || r != 0 || ok {
				t.Errorf("%d and %d by 0: %d, %d, %v", a, b, q, r, ok)
			}
		}
	}
}

// scaled is what Scale is to tell of a divisor that isn't 0, by whole numbers.
func scaled(a, b, c int) (int, int, bool) {
	p := new(big.Int).Mul(whole(a), whole(b))
	q := down(p, whole(c))
	if !q.IsInt64() {
		return 0, 0, false
	}
	return around(q), around(left(p, whole(c), q)), true
}

// P1.2
func TestScaleOfEdges(t *testing.T) {
	for _, a := range edges {
		for _, b := range edges {
			for _, c := range edges {
				if c == 0 {
					continue
				}
				q, r, ok := cell.Scale(a, b, c)
				wantQ, wantR, want := scaled(a, b, c)
				if q != wantQ || r != wantR || ok != want {
					t.Fatalf("%d and %d by %d: %d, %d, %v", a, b, c, q, r, ok)
				}
			}
		}
	}
}

// nearer tells whether what is left by a divisor is 0, or has its sign and is nearer to 0.
func nearer(r, by int) bool {
	if by < 0 {
		return by < r && r <= 0
	}
	return 0 <= r && r < by
}

// P1.4
func TestWhatIsLeft(t *testing.T) {
	for _, a := range edges {
		for _, b := range edges {
			if _, r, ok := cell.Div(a, b); ok && !nearer(r, b) {
				t.Errorf("%d by %d: %d is left", a, b, r)
			}
			for _, c := range edges {
				if _, r, ok := cell.Scale(a, b, c); ok && !nearer(r, c) {
					t.Fatalf("%d and %d by %d: %d is left", a, b, c, r)
				}
			}
		}
	}
}
