package number_test

import (
	"math"
	"math/big"
	"regexp"
	"strconv"
	"strings"
	"testing"

	"nostos/number"
)

// bases are all that there are.
func bases() []int {
	var l []int
	for base := 2; base <= 36; base++ {
		l = append(l, base)
	}
	return l
}

// noBases are numbers around the bases, and at the ends of all.
func noBases() []int {
	return []int{
		math.MinInt, math.MinInt + 1, math.MinInt + 10, -1 << 32, -256, -36, -16, -10, -2, -1, 0, 1,
		37, 38, 62, 64, 255, 256 + 10, 1<<32 + 10, 1 << 32, math.MaxInt - 1, math.MaxInt,
	}
}

// numbers are those around 0, around the powers of all bases, and at the ends of all.
func numbers() []int {
	l := []int{math.MinInt, math.MinInt + 1, math.MinInt + 2, math.MaxInt - 2, math.MaxInt - 1, math.MaxInt}
	for n := -1300; n <= 1300; n++ {
		l = append(l, n)
	}
	for _, base := range bases() {
		for power := base; power <= math.MaxInt/base; power *= base {
			l = append(l, power-1, power, power+1, -power+1, -power, -power-1)
		}
	}
	return l
}

// form are a sign or none, a minus sign or none, and figures.
var form = regexp.MustCompile(`\A([#$%]?)(-?)([0-9A-Za-z]+)\z`)

// told is what the words of P5.2 make of a text, in whole numbers without bounds.
func told(s string, base int) (int, bool) {
	if len(s) == 3 && strings.HasPrefix(s, "'") && strings.HasSuffix(s, "'") {
		return int(s[1]), true
	}
	parts := form.FindStringSubmatch(s)
	if parts == nil {
		return 0, false
	}
	if by, ok := map[string]int{"#": 10, "$": 16, "%": 2}[parts[1]]; ok {
		base = by
	}
	if base < 2 || base > 36 {
		return 0, false
	}
	whole, ok := new(big.Int).SetString(parts[3], base)
	if !ok {
		return 0, false
	}
	if parts[2] == "-" {
		whole.Neg(whole)
	}
	round := new(big.Int).Lsh(big.NewInt(1), 64)
	return int(whole.Mod(whole, round).Uint64()), true
}

// P5.1
func TestPutAll(t *testing.T) {
	for _, base := range bases() {
		for _, n := range numbers() {
			want := strings.ToUpper(strconv.FormatInt(int64(n), base))
			if s, ok := number.Put(n, base); s != want || !ok {
				t.Errorf("%d by %d: %q, %v", n, base, s, ok)
			}
		}
	}
}

// TestTakeAll has all texts of up to three bytes of those that stand at an edge, and all of one and of two bytes (P5.2).
func TestTakeAll(t *testing.T) {
	check := func(s string, base int) {
		want, is := told(s, base)
		if n, ok := number.Take(s, base); n != want || ok != is {
			t.Errorf("%q by %d: %d, %v", s, base, n, ok)
		}
	}
	some := "\x00 !\"#$%&'+-./0129:@AFGZ[`afgz{\x7f\x80\xff"
	for _, base := range []int{math.MinInt, -1, 0, 1, 2, 3, 10, 11, 16, 17, 35, 36, 37, math.MaxInt} {
		check("", base)
		for _, a := range []byte(some) {
			for _, b := range []byte(some) {
				check(string([]byte{a, b}), base)
				for _, c := range []byte("\x00 #$%'-01Zz\xff") {
					check(string([]byte{a, b, c}), base)
				}
			}
		}
	}
	for _, base := range append(bases(), noBases()...) {
		for a := range 256 {
			check(string([]byte{byte(a)}), base)
			for _, b := range []byte("#$%-'01") {
				check(string([]byte{b, byte(a)}), base)
				check(string([]byte{byte(a), b}), base)
			}
		}
	}
}

// TestTakeLong has numbers around all multiples of 2^63 up to some, by signs, by minus signs, and with noughts ahead (P5.2).
func TestTakeLong(t *testing.T) {
	for _, base := range bases() {
		for times := range 9 {
			for less := -3; less <= 3; less++ {
				whole := new(big.Int).Lsh(big.NewInt(int64(times)), 63)
				whole.Add(whole, big.NewInt(int64(less)))
				figures := whole.Abs(whole).Text(base)
				for _, s := range []string{figures, "-" + figures, "0" + figures, "-000" + strings.ToUpper(figures), "$" + whole.Text(16), "#-" + whole.Text(10), "%" + whole.Text(2)} {
					want, is := told(s, base)
					if n, ok := number.Take(s, base); n != want || ok != is || !ok {
						t.Errorf("%q by %d: %d, %v", s, base, n, ok)
					}
				}
			}
		}
	}
}

// TestSmallForLarge takes each figure's letter, small and large, by each base (P5.2).
func TestSmallForLarge(t *testing.T) {
	for _, base := range bases() {
		for value := 10; value < 36; value++ {
			want, is := value, true
			if value >= base {
				want, is = 0, false
			}
			for _, first := range []byte("aA") {
				s := string([]byte{first + byte(value-10)})
				if n, ok := number.Take(s, base); n != want || ok != is {
					t.Errorf("%q by %d: %d, %v", s, base, n, ok)
				}
			}
		}
	}
}

// TestPutIsTaken takes back what was put, by the same base (P5.3).
func TestPutIsTaken(t *testing.T) {
	for _, base := range bases() {
		for _, n := range numbers() {
			s, ok := number.Put(n, base)
			if !ok {
				t.Fatalf("%d by %d isn't put", n, base)
			}
			if back, ok := number.Take(s, base); back != n || !ok {
				t.Errorf("%d by %d is %q: %d, %v", n, base, s, back, ok)
			}
		}
	}
}
