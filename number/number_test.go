package number_test

import (
	"math"
	"strings"
	"testing"

	"nostos/number"
)

// P5.1
func TestPut(t *testing.T) {
	for _, c := range []struct {
		n, base int
		want    string
		what    string
	}{
		{-255, 16, "-FF", "the chapter's example"},
		{255, 16, "FF", "above 0"},
		{0, 10, "0", "0"},
		{0, 2, "0", "0 by the least base"},
		{0, 36, "0", "0 by the greatest base"},
		{1, 2, "1", "1 by the least base"},
		{2, 2, "10", "2 by the least base"},
		{-2, 2, "-10", "-2 by the least base"},
		{5, 2, "101", "5 by the least base"},
		{-1, 10, "-1", "-1"},
		{9, 10, "9", "the last one of one figure"},
		{10, 10, "10", "the first one of two figures"},
		{-100, 10, "-100", "noughts at its end stay"},
		{1024, 10, "1024", "a nought within it stays"},
		{10, 11, "A", "the first letter"},
		{35, 36, "Z", "the last letter"},
		{36, 36, "10", "the greatest base itself"},
		{-35, 36, "-Z", "the last letter, below 0"},
		{1295, 36, "ZZ", "the last letter twice"},
		{3735928559, 16, "DEADBEEF", "letters alone"},
		{8, 7, "11", "a base below 10"},
		{math.MaxInt, 10, "9223372036854775807", "the greatest integer by 10"},
		{math.MinInt, 10, "-9223372036854775808", "the least integer by 10"},
		{math.MinInt + 1, 10, "-9223372036854775807", "the least integer but one"},
		{math.MaxInt, 16, "7FFFFFFFFFFFFFFF", "the greatest integer by 16"},
		{math.MinInt, 16, "-8000000000000000", "the least integer by 16"},
		{math.MaxInt, 2, strings.Repeat("1", 63), "the greatest integer by 2"},
		{math.MinInt, 2, "-1" + strings.Repeat("0", 63), "the least integer by 2"},
		{math.MaxInt, 36, "1Y2P0IJ32E8E7", "the greatest integer by 36"},
		{math.MinInt, 36, "-1Y2P0IJ32E8E8", "the least integer by 36"},
	} {
		if told, ok := number.Put(c.n, c.base); told != c.want || !ok {
			t.Errorf("%s: %d by %d: %q, %v", c.what, c.n, c.base, told, ok)
		}
	}
}

// TestPutByNone has no text beside false (P5.1).
func TestPutByNone(t *testing.T) {
	for _, base := range noBases() {
		for _, n := range []int{0, 1, -1, 7, 255, math.MaxInt, math.MinInt} {
			if told, ok := number.Put(n, base); told != "" || ok {
				t.Errorf("%d by %d: %q, %v", n, base, told, ok)
			}
		}
	}
}

// P5.2
func TestTake(t *testing.T) {
	for _, c := range []struct {
		s       string
		base, n int
		what    string
	}{
		{"$-fF", 10, -255, "the chapter's example"},
		{"'A'", 10, 65, "the chapter's example of a byte"},
		{"0", 10, 0, "0"},
		{"-0", 10, 0, "0, with a minus sign"},
		{"5", 10, 5, "one figure"},
		{"-5", 10, -5, "one figure, with a minus sign"},
		{"105", 10, 105, "some figures"},
		{"00105", 10, 105, "noughts ahead"},
		{"-00105", 10, -105, "noughts ahead, with a minus sign"},
		{"000", 10, 0, "noughts alone"},
		{"101", 2, 5, "by the least base"},
		{"-101", 2, -5, "by the least base, with a minus sign"},
		{"zZ", 36, 1295, "by the greatest base, a small and a large letter"},
		{"-Zz", 36, -1295, "by the greatest base, with a minus sign"},
		{"ff", 16, 255, "small letters"},
		{"FF", 16, 255, "large letters"},
		{"a", 11, 10, "the first letter"},
		{"A", 11, 10, "the first letter, large"},
		{"#19", 16, 19, "the sign of 10"},
		{"#-19", 2, -19, "the sign of 10, with a minus sign"},
		{"$1f", 10, 31, "the sign of 16"},
		{"$-1F", 2, -31, "the sign of 16, with a minus sign"},
		{"%101", 10, 5, "the sign of 2"},
		{"%-101", 36, -5, "the sign of 2, with a minus sign"},
		{"#-0", 16, 0, "the sign of 10, and 0 with a minus sign"},
		{"#007", 16, 7, "a sign, and noughts ahead"},
		{"9223372036854775807", 10, math.MaxInt, "the greatest integer"},
		{"-9223372036854775808", 10, math.MinInt, "the least integer"},
		{"9223372036854775808", 10, math.MinInt, "the greatest integer and 1 goes round"},
		{"-9223372036854775809", 10, math.MaxInt, "the least integer less 1 goes round"},
		{"18446744073709551615", 10, -1, "2^64 less 1"},
		{"-18446744073709551615", 10, 1, "2^64 less 1, with a minus sign"},
		{"18446744073709551616", 10, 0, "2^64"},
		{"-18446744073709551616", 10, 0, "2^64, with a minus sign"},
		{"18446744073709551623", 10, 7, "2^64 and 7"},
		{"-18446744073709551623", 10, -7, "2^64 and 7, with a minus sign"},
		{"$ffffffffffffffff", 10, -1, "2^64 less 1 by 16"},
		{"$-ffffffffffffffff", 10, 1, "2^64 less 1 by 16, with a minus sign"},
		{"$10000000000000003", 10, 3, "2^64 and 3 by 16"},
		{"%1" + strings.Repeat("0", 63), 10, math.MinInt, "2^63 by 2"},
		{"%-1" + strings.Repeat("0", 63), 10, math.MinInt, "2^63 by 2, with a minus sign"},
		{"%1" + strings.Repeat("0", 64), 10, 0, "2^64 by 2"},
		{"$" + strings.Repeat("12", 500) + "0000000000000009", 10, 9, "many times round"},
		{strings.Repeat("0", 5000) + "12", 10, 12, "many noughts ahead"},
	} {
		if n, ok := number.Take(c.s, c.base); n != c.n || !ok {
			t.Errorf("%s: %q by %d: %d, %v", c.what, c.s, c.base, n, ok)
		}
	}
}

// TestTakeNone has texts that tell no number, and nothing beside false (P5.2).
func TestTakeNone(t *testing.T) {
	for _, c := range []struct {
		s    string
		base int
		what string
	}{
		{"", 10, "an empty text"},
		{"#", 10, "a sign alone"},
		{"$", 10, "a sign alone"},
		{"%", 10, "a sign alone"},
		{"-", 10, "a minus sign alone"},
		{"#-", 10, "a sign and a minus sign alone"},
		{"$-", 10, "a sign and a minus sign alone"},
		{"%-", 10, "a sign and a minus sign alone"},
		{"-#5", 10, "a minus sign ahead of a sign"},
		{"-$5", 10, "a minus sign ahead of a sign"},
		{"-%1", 10, "a minus sign ahead of a sign"},
		{"-$-5", 10, "a minus sign on both sides of a sign"},
		{"--5", 10, "a minus sign twice"},
		{"$--5", 10, "a minus sign twice, behind a sign"},
		{"5-", 10, "a minus sign at the end"},
		{"5-5", 10, "a minus sign within"},
		{"##5", 10, "a sign twice"},
		{"#$5", 10, "two signs"},
		{"$#5", 10, "two signs"},
		{"$%1", 10, "two signs"},
		{"%$1", 10, "two signs"},
		{"%#1", 10, "two signs"},
		{"#%1", 10, "two signs"},
		{"5#", 10, "a sign at the end"},
		{"1$5", 10, "a sign within"},
		{"2", 2, "a figure past the least base"},
		{"12", 2, "a figure past the base behind one of it"},
		{"21", 2, "a figure past the base ahead of one of it"},
		{"A", 10, "the first letter by 10"},
		{"a", 10, "the first letter by 10, small"},
		{"g", 16, "the first letter past 16"},
		{"Z", 35, "the last letter by 35"},
		{"z", 35, "the last letter by 35, small"},
		{"#f", 16, "a figure that is one of the base, and none of the sign's"},
		{"%2", 36, "a figure that is one of the base, and none of the sign's"},
		{"$g", 36, "a figure that is one of the base, and none of the sign's"},
		{"+5", 10, "a plus sign"},
		{"$+5", 10, "a plus sign behind a sign"},
		{"1.5", 10, "a point"},
		{"5.", 10, "a point at the end"},
		{".5", 36, "a point ahead"},
		{" 5", 10, "a blank ahead"},
		{"5 ", 10, "a blank at the end"},
		{"1 5", 10, "a blank within"},
		{"$ 5", 10, "a blank behind a sign"},
		{"- 5", 10, "a blank behind a minus sign"},
		{" ", 36, "a blank"},
		{"\n", 36, "a line feed"},
		{"5\n", 36, "a line feed at the end"},
		{"5\x00", 36, "a nought byte at the end"},
		{"1_000", 36, "a line below"},
		{"0x1F", 16, "a letter that is no figure, behind a nought"},
		{"$$", 10, "two signs alone"},
		{"1,5", 36, "a comma"},
		{"1e5", 10, "as floats are written"},
		{"é", 36, "bytes above 127"},
		{"\xff", 36, "the last byte"},
		{"1\x80", 36, "a byte above 127"},
		{"\u0661", 36, "another script's figure"},
		{"\uff21", 36, "a wide letter"},
		{"\u017f", 36, "a letter whose large one is a figure"},
		{"\u212a", 36, "a letter whose small one is a figure"},
		{"/", 36, "the byte ahead of 0"},
		{":", 36, "the byte behind 9"},
		{"@", 36, "the byte ahead of A"},
		{"[", 36, "the byte behind Z"},
		{"`", 36, "the byte ahead of a"},
		{"{", 36, "the byte behind z"},
		{strings.Repeat("9", 5000) + "x", 10, "none of the base, behind many"},
		{"18446744073709551616x", 10, "none of the base, behind 2^64"},
	} {
		if n, ok := number.Take(c.s, c.base); n != 0 || ok {
			t.Errorf("%s: %q by %d: %d, %v", c.what, c.s, c.base, n, ok)
		}
	}
}

// TestTakeQuoted has every byte between two single quotes, by every base, and by none (P5.2).
func TestTakeQuoted(t *testing.T) {
	for _, base := range append(bases(), noBases()...) {
		for c := range 256 {
			s := string([]byte{'\'', byte(c), '\''})
			if n, ok := number.Take(s, base); n != c || !ok {
				t.Errorf("%q by %d: %d, %v", s, base, n, ok)
			}
		}
	}
}

// TestTakeMisquoted has single quotes elsewhere than at both ends of three bytes (P5.2).
func TestTakeMisquoted(t *testing.T) {
	for _, base := range append(bases(), noBases()...) {
		for _, s := range []string{
			"'", "''", "''''", "'AB'", "'12'", "'''''", "'A", "A'", "'AB", "AB'", "A'B", "A''", "''A", "'1", "1'", "'11", "11'", "1'1",
			"\"A\"", "`A`", "'A`", "`A'", " 'A'", "'A' ", "-'A'", "'A'-", "#'A'", "$'A'", "%'A'", "'é'", "'A'\x00", "\x00'A'", "'A''A'",
		} {
			if n, ok := number.Take(s, base); n != 0 || ok {
				t.Errorf("%q by %d: %d, %v", s, base, n, ok)
			}
		}
	}
}

// TestTakeByNone has signs, which tell a base of their own, and texts without one, which have none then (P5.2).
func TestTakeByNone(t *testing.T) {
	for _, base := range noBases() {
		for s, want := range map[string]int{"#19": 19, "#-19": -19, "$1f": 31, "$-1F": -31, "%101": 5, "%-101": -5, "#0": 0} {
			if n, ok := number.Take(s, base); n != want || !ok {
				t.Errorf("%q by %d: %d, %v", s, base, n, ok)
			}
		}
		for _, s := range []string{"", "0", "1", "-1", "-0", "00", "10", "F", "z", "-", "#", "$", "%", "#-", "%2", "#A", "$g", "-#1", "'", "''"} {
			if n, ok := number.Take(s, base); n != 0 || ok {
				t.Errorf("%q by %d: %d, %v", s, base, n, ok)
			}
		}
	}
}
