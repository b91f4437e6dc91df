package names_test

import (
	"slices"
	"strconv"
	"strings"
	"testing"

	"nostos/api"
	"nostos/names"
)

const (
	small   = "abcdefghijklmnopqrstuvwxyz"
	capital = "ABCDEFGHIJKLMNOPQRSTUVWXYZ"
)

// capitals is a text with each of its small letters turned, found one by one.
func capitals(s string) string {
	var told strings.Builder
	for at := range len(s) {
		if place := strings.IndexByte(small, s[at]); place >= 0 {
			told.WriteByte(capital[place])
		} else {
			told.WriteByte(s[at])
		}
	}
	return told.String()
}

// TestFoldAll folds all texts of one byte, and of two, and what is folded once more (P7.1).
func TestFoldAll(t *testing.T) {
	var all []string
	for first := range 256 {
		all = append(all, string([]byte{byte(first)}))
		for second := range 256 {
			all = append(all, string([]byte{byte(first), byte(second)}))
		}
	}
	for _, s := range all {
		told := names.Fold(s)
		if told != capitals(s) {
			t.Fatalf("%q: %q", s, told)
		}
		if again := names.Fold(told); again != told {
			t.Fatalf("%q: %q, and %q of it", s, told, again)
		}
	}
}

// TestFoldEveryByte has all bytes in one text, at all places of it, in texts of all lengths around a word's greatest (P7.1).
func TestFoldEveryByte(t *testing.T) {
	for begin := range 256 {
		for many := range 70 {
			s := make([]byte, many)
			for at := range s {
				s[at] = byte(begin + at)
			}
			if told := names.Fold(string(s)); told != capitals(string(s)) {
				t.Fatalf("%q: %q", s, told)
			}
		}
	}
}

// TestMayAll has names of all lengths up to some hundreds, of each byte (P7.1).
func TestMayAll(t *testing.T) {
	for c := range 256 {
		for many := range 300 {
			want := 0
			if many == 0 {
				want = api.NoName
			} else if many > 31 {
				want = api.LongName
			}
			if thrown := names.May(strings.Repeat(string([]byte{byte(c)}), many)); thrown != want {
				t.Fatalf("%d bytes of %d: %d", many, c, thrown)
			}
		}
	}
}

// kinds are words that have a name in common, or differ by their case, by a byte, or by their length, hidden or not; some are no valid UTF-8.
func kinds() []api.Word {
	var l []api.Word
	for at, name := range []string{"", "a", "A", "ab", "`", "@", "é", "É", "\xff", "\xfe", "a\xe9"} {
		for _, hid := range []bool{false, true} {
			l = append(l, api.Word{Name: name, Code: 256 + 8*at, Now: at%2 == 0, Hid: hid})
		}
	}
	return l
}

// asked are names that the words of these kinds have, and others.
func asked() []string {
	return []string{"", "a", "A", "aB", "Ab", "abc", "b", "`", "@", "é", "É", "\xff", "\xfe", "\ufffd", "A\xe9", "A\xc9", "\xc3"}
}

// lists are all of up to so many words of these kinds.
func lists(many int) [][]api.Word {
	all, last := [][]api.Word{nil}, [][]api.Word{nil}
	for range many {
		var longer [][]api.Word
		for _, l := range last {
			for _, w := range kinds() {
				longer = append(longer, append(slices.Clone(l), w))
			}
		}
		all, last = append(all, longer...), longer
	}
	return all
}

// newest is the greatest of all places that a name may be found at, gone through from the first one on.
func newest(l []api.Word, name string) int {
	found := -1
	for at, w := range l {
		if !w.Hid && capitals(w.Name) == capitals(name) {
			found = at
		}
	}
	return found
}

// P7.2
func TestFindAll(t *testing.T) {
	for _, l := range lists(3) {
		for _, name := range asked() {
			if at := names.Find(l, name); at != newest(l, name) {
				t.Fatalf("%q of %v: %d", name, l, at)
			}
		}
	}
}

// TestListStays finds names in a part of a list: all of it, and what stands behind it in the same room, is as it was (P7.2, R3).
func TestListStays(t *testing.T) {
	whole := append(kinds(), kinds()...)
	was := slices.Clone(whole)
	for many := range len(whole) + 1 {
		for _, name := range asked() {
			if at := names.Find(whole[:many], name); at != newest(was[:many], name) {
				t.Fatalf("%q of %d: %d", name, many, at)
			}
			if !slices.Equal(whole, was) {
				t.Fatalf("%q of %d: the list is %v now", name, many, whole)
			}
		}
	}
}

// TestNextHides lays a word behind all others: it is found by its name, and all other names as they were (P7.3).
func TestNextHides(t *testing.T) {
	for _, l := range lists(2) {
		for _, w := range kinds() {
			w.Hid = false
			longer := append(slices.Clone(l), w)
			for _, name := range asked() {
				want := names.Find(l, name)
				if capitals(name) == capitals(w.Name) {
					want = len(l)
				}
				if at := names.Find(longer, name); at != want {
					t.Fatalf("%q of %v: %d", name, longer, at)
				}
			}
		}
	}
}

// TestHiddenMakesNoDifference lays a hidden word ahead of others, between them, and behind them: the same word as ever is found by each name (P7.3).
func TestHiddenMakesNoDifference(t *testing.T) {
	for _, l := range lists(2) {
		for _, w := range kinds() {
			w.Hid = true
			for place := range len(l) + 1 {
				longer := slices.Insert(slices.Clone(l), place, w)
				for _, name := range asked() {
					want := names.Find(l, name)
					if want >= place {
						want++
					}
					if at := names.Find(longer, name); at != want {
						t.Fatalf("%q of %v: %d", name, longer, at)
					}
				}
			}
		}
	}
}

// TestFullDictionary has as many words as there may be, each of another name, and as many again of the same names (P7.2, P7.3).
func TestFullDictionary(t *testing.T) {
	var l []api.Word
	for at := range 2 * api.MaxWords {
		l = append(l, api.Word{Name: "w" + strconv.Itoa(at%api.MaxWords)})
	}
	for at := range api.MaxWords {
		name := "W" + strconv.Itoa(at)
		if found := names.Find(l[:api.MaxWords], name); found != at {
			t.Errorf("%q: %d", name, found)
		}
		if found := names.Find(l, name); found != at+api.MaxWords {
			t.Errorf("%q, twice: %d", name, found)
		}
		l[at+api.MaxWords].Hid = true
		if found := names.Find(l, name); found != at {
			t.Errorf("%q, the newer one hidden: %d", name, found)
		}
	}
}
