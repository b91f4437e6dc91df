package flo_test

import (
	"math"
	"math/big"
	"testing"

	"nostos/flo"
)

// P2.1
func TestTwo(t *testing.T) {
	for _, c := range []struct {
		op         byte
		a, b, want float64
	}{
		{'+', 1, 2, 3}, {'+', 2.5, -4, -1.5}, {'-', 1, 2, -1}, {'-', -1.5, -4, 2.5},
		{'*', 3, -2.5, -7.5}, {'*', -2, -2, 4}, {'/', 1, 4, 0.25}, {'/', -7, 2, -3.5}, {'/', 1, 3, 1.0 / 3},
		{'m', 1, 2, 1}, {'m', 2, 1, 1}, {'m', -1, -2, -2}, {'M', 1, 2, 2}, {'M', 2, 1, 2}, {'M', -1, -2, -1},
		{'m', 3, 3, 3}, {'M', 3, 3, 3}, {'m', -1, 1, -1}, {'M', 1, -1, 1},
	} {
		if r, ok := flo.Two(c.op, bits(c.a), bits(c.b)); r != bits(c.want) || !ok {
			t.Errorf("%c of %v and %v: %x, %v", c.op, c.a, c.b, r, ok)
		}
	}
}

// P2.1
func TestTwoOfInfinitiesAndNoughts(t *testing.T) {
	for _, c := range []struct {
		op         byte
		a, b, want int
	}{
		{'/', one, minus0, minusInf}, {'/', one, nought, infinity}, {'/', signed(one, true), nought, minusInf}, {'/', signed(one, true), minus0, infinity},
		{'/', nought, nought, nan}, {'/', minus0, nought, nan}, {'/', infinity, infinity, nan}, {'/', minusInf, infinity, nan},
		{'/', one, infinity, nought}, {'/', one, minusInf, minus0}, {'/', nought, minusInf, minus0}, {'/', infinity, nought, infinity}, {'/', infinity, minus0, minusInf},
		{'+', infinity, minusInf, nan}, {'+', minusInf, infinity, nan}, {'+', infinity, infinity, infinity}, {'+', minusInf, one, minusInf},
		{'-', infinity, infinity, nan}, {'-', minusInf, minusInf, nan}, {'-', infinity, minusInf, infinity}, {'-', one, infinity, minusInf},
		{'+', nought, minus0, nought}, {'+', minus0, nought, nought}, {'+', minus0, minus0, minus0}, {'+', one, signed(one, true), nought},
		{'-', nought, nought, nought}, {'-', minus0, nought, minus0}, {'-', nought, minus0, nought}, {'-', minus0, minus0, nought}, {'-', one, one, nought},
		{'*', nought, infinity, nan}, {'*', minusInf, minus0, nan}, {'*', nought, signed(one, true), minus0}, {'*', minus0, minus0, nought}, {'*', minusInf, one, minusInf},
		{'m', nought, minus0, minus0}, {'m', minus0, nought, minus0}, {'M', nought, minus0, nought}, {'M', minus0, nought, nought},
		{'m', minus0, minus0, minus0}, {'M', minus0, minus0, minus0}, {'m', infinity, minusInf, minusInf}, {'M', minusInf, infinity, infinity},
	} {
		if r, ok := flo.Two(c.op, c.a, c.b); r != c.want || !ok {
			t.Errorf("%c of %x and %x: %x, %v", c.op, c.a, c.b, r, ok)
		}
	}
}

// TestTwoRounded has results midway between two floats, at 1, below the normal ones, and at the greatest one (P2.1).
func TestTwoRounded(t *testing.T) {
	const greatest, midway = 0x7FEFFFFFFFFFFFFF, 0x3CA0000000000000
	for _, c := range []struct {
		op         byte
		a, b, want int
	}{
		{'+', one, midway, one}, {'+', one + 1, midway, one + 2}, {'+', one + 2, midway, one + 2}, {'+', one, midway + 1, one + 1},
		{'-', one, midway - 1<<52, one}, {'-', one + 1, midway, one}, {'-', one + 3, midway, one + 2},
		{'*', 1, 0x3FE0000000000000, nought}, {'*', 3, 0x3FE0000000000000, 2}, {'*', 5, 0x3FE0000000000000, 2}, {'*', 1, 0x3FE0000000000001, 1},
		{'*', signed(1, true), 1, minus0}, {'*', 1, 1, nought},
		{'/', 1, 0x4000000000000000, nought}, {'/', 3, 0x4000000000000000, 2}, {'/', 0x10000000000000, 0x4000000000000000, 0x8000000000000}, {'/', signed(1, true), greatest, minus0},
		{'-', 0x10000000000001, 0x10000000000000, 1}, {'+', 0xFFFFFFFFFFFFF, 1, 0x10000000000000},
		{'+', greatest, 0x7C90000000000000, infinity}, {'+', greatest, 0x7C8FFFFFFFFFFFFF, greatest}, {'*', greatest, 0x4000000000000000, infinity}, {'-', signed(greatest, true), greatest, minusInf},
		{'/', one, 1, infinity},
	} {
		if r, ok := flo.Two(c.op, c.a, c.b); r != c.want || !ok {
			t.Errorf("%c of %x and %x: %x, %v", c.op, c.a, c.b, r, ok)
		}
	}
}

// P2.1
func TestTwoOfAll(t *testing.T) {
	for _, a := range floats() {
		for _, b := range floats() {
			for _, op := range []byte("+-*/mM") {
				if r, ok := flo.Two(op, a, b); r != two(op, a, b) || !ok {
					t.Fatalf("%c of %x and %x: %x, %v, not %x", op, a, b, r, ok, two(op, a, b))
				}
			}
		}
	}
}

// P2.1
func TestTwoOfNaNs(t *testing.T) {
	for _, op := range []byte("+-*/mM") {
		for _, a := range nans {
			for _, b := range append(floats(), nans...) {
				if r, ok := flo.Two(op, a, b); r != nan || !ok {
					t.Errorf("%c of %x and %x: %x, %v", op, a, b, r, ok)
				}
				if r, ok := flo.Two(op, b, a); r != nan || !ok {
					t.Errorf("%c of %x and %x: %x, %v", op, b, a, r, ok)
				}
			}
		}
	}
}

// P2.2
func TestOne(t *testing.T) {
	for _, c := range []struct {
		op      byte
		a, want float64
	}{
		{'n', 2.5, -2.5}, {'n', -2.5, 2.5}, {'a', 2.5, 2.5}, {'a', -2.5, 2.5},
		{'s', 4, 2}, {'s', 2.25, 1.5}, {'s', 0.25, 0.5}, {'s', 2, math.Sqrt2}, {'s', 1e300, 1e150},
		{'f', 2.5, 2}, {'f', -2.5, -3}, {'f', 0.5, 0}, {'f', -0.5, -1}, {'f', 3, 3}, {'f', -3, -3}, {'f', 0.99, 0}, {'f', -5e-324, -1}, {'f', 5e-324, 0},
		{'f', 1<<52 - 0.5, 1<<52 - 1}, {'f', -1<<52 + 0.5, -1 << 52}, {'f', 1e300, 1e300},
	} {
		if r, ok := flo.One(c.op, bits(c.a)); r != bits(c.want) || !ok {
			t.Errorf("%c of %v: %x, %v", c.op, c.a, r, ok)
		}
	}
}

// P2.2
func TestOneOfInfinitiesAndNoughts(t *testing.T) {
	for _, c := range []struct {
		op      byte
		a, want int
	}{
		{'n', nought, minus0}, {'n', minus0, nought}, {'n', infinity, minusInf}, {'n', minusInf, infinity},
		{'a', nought, nought}, {'a', minus0, nought}, {'a', infinity, infinity}, {'a', minusInf, infinity},
		{'s', nought, nought}, {'s', minus0, minus0}, {'s', infinity, infinity}, {'s', minusInf, nan}, {'s', signed(one, true), nan}, {'s', signed(1, true), nan},
		{'f', nought, nought}, {'f', minus0, minus0}, {'f', infinity, infinity}, {'f', minusInf, minusInf},
	} {
		if r, ok := flo.One(c.op, c.a); r != c.want || !ok {
			t.Errorf("%c of %x: %x, %v", c.op, c.a, r, ok)
		}
	}
}

// P2.2
func TestOneOfAll(t *testing.T) {
	for _, a := range floats() {
		for op, want := range map[byte]int{'n': signed(size(a), !minus(a)), 'a': size(a), 'f': floored(a)} {
			if r, ok := flo.One(op, a); r != want || !ok {
				t.Errorf("%c of %x: %x, %v, not %x", op, a, r, ok, want)
			}
		}
	}
}

// P2.2
func TestRoots(t *testing.T) {
	for _, a := range floats() {
		r, ok := flo.One('s', a)
		switch {
		case !ok:
			t.Errorf("of %x: false", a)
		case isNought(a) || a == infinity:
			if r != a {
				t.Errorf("of %x: %x", a, r)
			}
		case minus(a):
			if r != nan {
				t.Errorf("of %x: %x", a, r)
			}
		case minus(r) || isNought(r) || size(r) >= infinity || !isRoot(a, r):
			t.Errorf("of %x: %x", a, r)
		}
	}
}

// P2.2
func TestOneOfNaNs(t *testing.T) {
	for _, op := range []byte("nasf") {
		for _, a := range nans {
			if r, ok := flo.One(op, a); r != nan || !ok {
				t.Errorf("%c of %x: %x, %v", op, a, r, ok)
			}
		}
	}
}

// TestOtherOps has each byte that is no op, whatever floats stand beside it (P2.1, P2.2).
func TestOtherOps(t *testing.T) {
	of := map[byte]int{'+': 2, '-': 2, '*': 2, '/': 2, 'm': 2, 'M': 2, 'n': 1, 'a': 1, 's': 1, 'f': 1}
	beside := append([]int{nought, minus0, one, signed(one, true), infinity, minusInf, 1, 42}, nans...)
	for n := range 256 {
		op := byte(n)
		for _, a := range beside {
			if r, ok := flo.One(op, a); of[op] != 1 && (r != 0 || ok) {
				t.Errorf("%d of %x: %x, %v", op, a, r, ok)
			}
			for _, b := range beside {
				if r, ok := flo.Two(op, a, b); of[op] != 2 && (r != 0 || ok) {
					t.Errorf("%d of %x and %x: %x, %v", op, a, b, r, ok)
				}
			}
		}
	}
}

// P2.3
func TestLessAndSame(t *testing.T) {
	for _, c := range []struct {
		a, b       int
		less, same bool
	}{
		{bits(1), bits(2), true, false}, {bits(2), bits(1), false, false}, {bits(2), bits(2), false, true},
		{bits(-1), bits(-2), false, false}, {bits(-2), bits(-1), true, false}, {bits(-1), bits(1), true, false}, {bits(1), bits(-1), false, false},
		{nought, minus0, false, true}, {minus0, nought, false, true}, {nought, nought, false, true}, {minus0, minus0, false, true},
		{minus0, 1, true, false}, {signed(1, true), minus0, true, false}, {signed(1, true), nought, true, false}, {nought, signed(1, true), false, false},
		{infinity, infinity, false, true}, {minusInf, minusInf, false, true}, {minusInf, infinity, true, false}, {infinity, minusInf, false, false},
		{one, one + 1, true, false}, {one + 1, one, false, false}, {signed(one, true), signed(one+1, true), false, false},
	} {
		if less, same := flo.Less(c.a, c.b), flo.Same(c.a, c.b); less != c.less || same != c.same {
			t.Errorf("%x and %x: %v, %v", c.a, c.b, less, same)
		}
	}
	for _, a := range floats() {
		for _, b := range floats() {
			same := a == b || isNought(a) && isNought(b)
			if is := flo.Same(a, b); is != same {
				t.Errorf("%x and %x: same: %v", a, b, is)
			}
			if is := flo.Less(a, b); is != (!same && order(a) < order(b)) {
				t.Errorf("%x and %x: less: %v", a, b, is)
			}
		}
	}
}

// P2.3
func TestNaNsCompared(t *testing.T) {
	for _, a := range nans {
		for _, b := range append(floats(), nans...) {
			if flo.Less(a, b) || flo.Less(b, a) || flo.Same(a, b) || flo.Same(b, a) {
				t.Errorf("%x and %x", a, b)
			}
		}
	}
}

// cells are those around powers of 2, with both signs.
func cells() []int {
	l := []int{0, 10, -10, 255, -255, 123456789123456789, -123456789123456789, math.MinInt, math.MaxInt}
	for n := range 63 {
		for d := range 4 {
			a, b := 1<<n+d, 1<<n-d
			l = append(l, a, b, -a, -b)
		}
	}
	for n := range 2049 {
		l = append(l, math.MaxInt-n, math.MinInt+n)
	}
	return l
}

// P2.4
func TestPut(t *testing.T) {
	for _, c := range []struct {
		n    int
		want float64
	}{
		{0, 0}, {1, 1}, {-1, -1}, {-7, -7}, {1 << 53, 1 << 53}, {-1 << 53, -1 << 53},
		{1<<53 + 1, 1 << 53}, {1<<53 + 2, 1<<53 + 2}, {1<<53 + 3, 1<<53 + 4}, {-1<<53 - 1, -1 << 53}, {-1<<53 - 3, -1<<53 - 4},
		{1<<54 + 2, 1 << 54}, {1<<54 + 3, 1<<54 + 4}, {1<<54 + 6, 1<<54 + 8},
		{math.MaxInt, 1 << 63}, {math.MaxInt - 511, 1 << 63}, {math.MaxInt - 512, 1<<63 - 1024}, {math.MinInt, -1 << 63},
		{math.MinInt + 512, -1 << 63}, {math.MinInt + 513, -1<<63 + 1024},
	} {
		if a := flo.Put(c.n); a != bits(c.want) {
			t.Errorf("%d: %x", c.n, a)
		}
	}
	for _, n := range cells() {
		if a := flo.Put(n); a != rounded(new(big.Rat).SetInt(whole(n))) {
			t.Errorf("%d: %x", n, a)
		}
	}
}

// P2.4
func TestTake(t *testing.T) {
	for _, c := range []struct {
		a  float64
		n  int
		ok bool
	}{
		{0, 0, true}, {math.Copysign(0, -1), 0, true}, {2.5, 2, true}, {-2.5, -2, true}, {0.99, 0, true}, {-0.99, 0, true}, {5e-324, 0, true}, {-5e-324, 0, true},
		{1<<52 - 0.5, 1<<52 - 1, true}, {-1<<52 + 0.5, -1<<52 + 1, true}, {1 << 62, 1 << 62, true},
		{1<<63 - 1024, math.MaxInt - 1023, true}, {1 << 63, 0, false}, {1<<63 + 2048, 0, false},
		{-1<<63 + 1024, math.MinInt + 1024, true}, {-1 << 63, math.MinInt, true}, {-1<<63 - 2048, 0, false},
		{1 << 64, 0, false}, {-1 << 64, 0, false}, {1e300, 0, false}, {-1e300, 0, false}, {math.Inf(1), 0, false}, {math.Inf(-1), 0, false},
	} {
		if n, ok := flo.Take(bits(c.a)); n != c.n || ok != c.ok {
			t.Errorf("%v: %d, %v", c.a, n, ok)
		}
	}
	for _, a := range nans {
		if n, ok := flo.Take(a); n != 0 || ok {
			t.Errorf("%x: %d, %v", a, n, ok)
		}
	}
}

// P2.4
func TestTakeOfAll(t *testing.T) {
	for _, a := range floats() {
		want, is := 0, false
		if !isInf(a) {
			x := exact(a)
			if q := new(big.Int).Quo(x.Num(), x.Denom()); q.IsInt64() {
				want, is = int(q.Int64()), true
			}
		}
		if n, ok := flo.Take(a); n != want || ok != is {
			t.Errorf("%x: %d, %v, not %d, %v", a, n, ok, want, is)
		}
	}
}

// P2.5
func TestThereAndBack(t *testing.T) {
	for _, n := range cells() {
		if n < -1<<53 || n > 1<<53 {
			continue
		}
		if back, ok := flo.Take(flo.Put(n)); back != n || !ok {
			t.Errorf("%d: %d, %v", n, back, ok)
		}
	}
	for n := range 4096 {
		for _, n := range []int{n, -n, 1<<53 - n, -1<<53 + n} {
			if back, ok := flo.Take(flo.Put(n)); back != n || !ok {
				t.Errorf("%d: %d, %v", n, back, ok)
			}
		}
	}
}

// P2.5
func TestExchanged(t *testing.T) {
	l := append(floats(), nans...)
	for _, op := range []byte("+*") {
		for _, a := range l {
			for _, b := range l {
				x, _ := flo.Two(op, a, b)
				if y, _ := flo.Two(op, b, a); x != y {
					t.Errorf("%c of %x and %x: %x, and %x", op, a, b, x, y)
				}
			}
		}
	}
}
