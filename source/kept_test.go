package source_test

import (
	"math"
	"strings"
	"testing"

	"nostos/source"
)

// blanks are all bytes of 32 or less.
const blanks = "\x00\x01\x02\x03\x04\x05\x06\x07\x08\t\n\x0b\x0c\r\x0e\x0f\x10\x11\x12\x13\x14\x15\x16\x17\x18\x19\x1a\x1b\x1c\x1d\x1e\x1f "

// texts are all of up to so many parts, of those at the edges of what a blank is, line feeds, and letters of several bytes, whole and cut off.
func texts(many int) []string {
	all, last := []string{""}, []string{""}
	for range many {
		var longer []string
		for _, s := range last {
			for _, part := range []string{"\x00", "\n", " ", "!", "b", "é", "\xe2\x82", "\xff"} {
				longer = append(longer, s+part)
			}
		}
		all, last = append(all, longer...), longer
	}
	return all
}

// places are all of a text, and some that aren't.
func places(s string) []int {
	l := []int{math.MinInt, math.MinInt + 1, -1 << 32, -2, -1}
	for at := range len(s) + 3 {
		l = append(l, at)
	}
	return append(l, 1<<32, math.MaxInt-1, math.MaxInt)
}

// within is a place as it is taken in all calls.
func within(s string, at int) int {
	switch {
	case at < 0:
		return 0
	case at > len(s):
		return len(s)
	}
	return at
}

// P6.1
func TestTokenAll(t *testing.T) {
	for _, s := range texts(5) {
		for _, at := range places(s) {
			rest := strings.TrimLeft(s[within(s, at):], blanks)
			want := rest
			if next := strings.IndexAny(rest, blanks); next >= 0 {
				want = rest[:next]
			}
			from := len(s) - len(rest)
			if word, begin, end := source.Token(s, at); word != want || begin != from || end != from+len(want) {
				t.Fatalf("%q from %d on: %q, %d, %d", s, at, word, begin, end)
			}
		}
	}
}

// P6.2
func TestUntilAll(t *testing.T) {
	for _, s := range texts(4) {
		for _, at := range places(s) {
			rest := s[within(s, at):]
			if rest != "" && strings.Contains(blanks, rest[:1]) {
				rest = rest[1:]
			}
			for _, c := range []byte("\x00\n !b\x82\xa9\xff)\x8a") {
				want, left, _ := strings.Cut(rest, string([]byte{c}))
				if text, next := source.Until(s, at, c); text != want || next != len(s)-len(left) {
					t.Fatalf("%q from %d on until %q: %q, %d", s, at, c, text, next)
				}
			}
		}
	}
}

// P6.2
func TestLineAll(t *testing.T) {
	for _, s := range texts(5) {
		for _, at := range places(s) {
			_, left, _ := strings.Cut(s[within(s, at):], "\n")
			if next := source.Line(s, at); next != len(s)-len(left) {
				t.Fatalf("%q from %d on: %d", s, at, next)
			}
		}
	}
}

// P6.3
func TestPlaceAll(t *testing.T) {
	for _, s := range texts(5) {
		for _, at := range places(s) {
			ahead := s[:within(s, at)]
			inLine := len(ahead) - 1 - strings.LastIndex(ahead, "\n")
			if line, column := source.Place(s, at); line != 1+strings.Count(ahead, "\n") || column != 1+inLine {
				t.Fatalf("%d of %q: %d, %d", at, s, line, column)
			}
		}
	}
}

// TestAllOfIt lays the words, told one by one, and the blanks between them beside each other (P6.4).
func TestAllOfIt(t *testing.T) {
	long := "\r\n : SQ\tDUP * ; \x00 5 SQ .\n\n\xff\xfe caf\xe9 é ( a b\n) .\" x\"" + strings.Repeat(" 12", 900) + "\n "
	for _, s := range append(texts(5), long, long[3:], long[:2500]) {
		all, at := "", 0
		for {
			word, begin, end := source.Token(s, at)
			between := s[at:begin]
			if strings.Trim(between, blanks) != "" || strings.ContainsAny(word, blanks) {
				t.Fatalf("%q from %d on: %q behind %q", s, at, word, between)
			}
			all += between + word
			if word == "" {
				break
			}
			if end <= at || end != begin+len(word) {
				t.Fatalf("%q from %d on: %q ends at %d", s, at, word, end)
			}
			at = end
		}
		if all != s {
			t.Fatalf("%q: told as %q", s, all)
		}
	}
}

// TestLinesAreAll goes from line to line: each begins at a place of column 1, and there are as many as there are line feeds, and the last one (P6.2, P6.3).
func TestLinesAreAll(t *testing.T) {
	for _, s := range texts(5) {
		at := 0
		for n := 1; ; n++ {
			if line, column := source.Place(s, at); line != n || column != 1 {
				t.Fatalf("%q: line %d begins at %d: %d, %d", s, n, at, line, column)
			}
			next := source.Line(s, at)
			if !strings.HasSuffix(s[at:next], "\n") {
				break
			}
			at = next
		}
		if want := strings.LastIndex(s, "\n") + 1; at != want {
			t.Fatalf("%q: the last line begins at %d", s, at)
		}
	}
}
