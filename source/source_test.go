package source_test

import (
	"math"
	"strings"
	"testing"

	"nostos/source"
)

// P6.1
func TestToken(t *testing.T) {
	for _, c := range []struct {
		s          string
		at         int
		word       string
		begin, end int
		what       string
	}{
		{" ab ", 0, "ab", 1, 3, "the chapter's example"},
		{"", 0, "", 0, 0, "an empty text"},
		{"", -1, "", 0, 0, "an empty text from below 0"},
		{"", 1, "", 0, 0, "an empty text from above the end"},
		{" ", 0, "", 1, 1, "one blank"},
		{" \t\r\n ", 0, "", 5, 5, "blanks alone"},
		{" \t\r\n ", 3, "", 5, 5, "blanks alone, from within"},
		{" \t\r\n ", 5, "", 5, 5, "blanks alone, from the end"},
		{"ab", 0, "ab", 0, 2, "no blank"},
		{"a", 0, "a", 0, 1, "one byte that is no blank"},
		{"ab", 1, "b", 1, 2, "no blank, from within the word"},
		{"ab", 2, "", 2, 2, "no blank, from the end"},
		{"ab cd", 0, "ab", 0, 2, "a blank between"},
		{"ab cd", 1, "b", 1, 2, "from within the first word"},
		{"ab cd", 2, "cd", 3, 5, "from the blank between"},
		{"ab cd", 3, "cd", 3, 5, "from where a word begins"},
		{"ab cd", 4, "d", 4, 5, "from within the last word"},
		{"ab cd", 5, "", 5, 5, "from behind the last word"},
		{"ab \n\t cd  ", 2, "cd", 6, 8, "from the first of some blanks"},
		{"ab \n\t cd  ", 4, "cd", 6, 8, "from within blanks"},
		{"ab \n\t cd  ", 5, "cd", 6, 8, "from the last of some blanks"},
		{"ab \n\t cd  ", 8, "", 10, 10, "from blanks at the end"},
		{"   ab", 0, "ab", 3, 5, "blanks ahead"},
		{"ab   ", 0, "ab", 0, 2, "blanks behind"},
		{"ab\ncd", 0, "ab", 0, 2, "a line feed ends a word"},
		{"a\x00b", 0, "a", 0, 1, "a byte of 0 ends a word"},
		{"\x00b", 0, "b", 1, 2, "a byte of 0 is passed over"},
		{"a!b", 0, "a!b", 0, 3, "a byte of 33 is the word's"},
		{"!", 0, "!", 0, 1, "a byte of 33 is a word"},
		{"a\x1fb", 0, "a", 0, 1, "a byte of 31 ends a word"},
		{"a\x7fb c", 0, "a\x7fb", 0, 3, "a byte of 127 is the word's"},
		{" é€ ", 0, "é€", 1, 6, "bytes above 127"},
		{"é", 1, "\xa9", 1, 2, "from within bytes that tell one letter"},
		{"a\u00a0b", 0, "a\u00a0b", 0, 4, "a blank of two bytes is none"},
		{"\u2003", 0, "\u2003", 0, 3, "a blank of three bytes is none"},
		{"\u0085 a", 0, "\u0085", 0, 2, "a next line of two bytes is no blank"},
		{"\x85\xa0\x80 a", 0, "\x85\xa0\x80", 0, 3, "bytes above 127 that are no valid UTF-8"},
		{" \xff\xfe b", 0, "\xff\xfe", 1, 3, "bytes that no UTF-8 has"},
		{"\xc3 \xa9", 0, "\xc3", 0, 1, "a blank where a letter goes on"},
		{" ab ", -1, "ab", 1, 3, "from below 0"},
		{" ab ", math.MinInt, "ab", 1, 3, "from the least integer"},
		{" ab ", 4, "", 4, 4, "from the end"},
		{" ab ", 5, "", 4, 4, "from above the end"},
		{" ab ", math.MaxInt, "", 4, 4, "from the greatest integer"},
		{"ab", 3, "", 2, 2, "no blank, from above the end"},
		{"ab", math.MaxInt, "", 2, 2, "no blank, from the greatest integer"},
	} {
		if word, begin, end := source.Token(c.s, c.at); word != c.word || begin != c.begin || end != c.end {
			t.Errorf("%s: %q from %d on: %q, %d, %d", c.what, c.s, c.at, word, begin, end)
		}
	}
}

// P6.2
func TestUntil(t *testing.T) {
	for _, c := range []struct {
		s    string
		at   int
		c    byte
		want string
		next int
		what string
	}{
		{" ab) c", 0, ')', "ab", 4, "a blank that is passed over"},
		{"ab) c", 0, ')', "ab", 3, "no blank to pass over"},
		{"( ab) c", 1, ')', "ab", 5, "from within"},
		{"  ab ) c", 0, ')', " ab ", 6, "one blank alone is passed over"},
		{"\n\nab)", 0, ')', "\nab", 5, "one line feed alone is passed over"},
		{"\x00ab)", 0, ')', "ab", 4, "a byte of 0 is passed over"},
		{"!ab)", 0, ')', "!ab", 4, "a byte of 33 isn't passed over"},
		{"\x80ab)", 0, ')', "\x80ab", 4, "a byte above 127 isn't passed over"},
		{")ab", 0, ')', "", 1, "c at once"},
		{" )ab", 0, ')', "", 2, "c at once behind a blank"},
		{"a)b)c", 0, ')', "a", 2, "c twice"},
		{"a)b)c", 2, ')', "b", 4, "c twice, from behind the first one"},
		{"a))", 0, ')', "a", 2, "c twice, one behind the other"},
		{"))", 0, ')', "", 1, "c twice, at once"},
		{"abc", 0, ')', "abc", 3, "no c"},
		{" abc ", 0, ')', "abc ", 5, "no c, and a blank ahead"},
		{"a)bc", 2, ')', "bc", 4, "no c from there on"},
		{"ab)", 0, ')', "ab", 3, "c at the end"},
		{"ab)", 2, ')', "", 3, "from the c at the end"},
		{"ab)", 3, ')', "", 3, "from the end"},
		{" ", 0, ')', "", 1, "a blank alone"},
		{"  ", 0, ')', " ", 2, "two blanks alone"},
		{"", 0, ')', "", 0, "an empty text"},
		{"", -1, ')', "", 0, "an empty text from below 0"},
		{"", 1, ')', "", 0, "an empty text from above the end"},
		{"", 0, ' ', "", 0, "an empty text, until a blank"},
		{"ab cd", 0, ' ', "ab", 3, "c is a blank"},
		{" ab cd", 0, ' ', "ab", 4, "c is the blank that is passed over, too"},
		{"  ab", 0, ' ', "", 2, "c is a blank, twice"},
		{" ", 0, ' ', "", 1, "c is a blank, which is passed over"},
		{" a", 0, ' ', "a", 2, "c is a blank, which is passed over, and none behind"},
		{"\n \na", 0, '\n', " ", 3, "c is a line feed"},
		{"\x00ab\x00c", 0, 0, "ab", 4, "c is a byte of 0"},
		{"ab\n) c", 0, ')', "ab\n", 4, "a line feed stands ahead of c"},
		{"aé€)b", 0, ')', "aé€", 7, "bytes above 127 ahead of c"},
		{"é", 0, 0xa9, "\xc3", 2, "c is the second byte of a letter"},
		{"é", 1, 0xa9, "", 2, "from the second byte of a letter"},
		{"a\xffb\xff", 0, 0xff, "a", 2, "c is a byte that no UTF-8 has"},
		{"a\xff\xfeb)", 0, ')', "a\xff\xfeb", 5, "bytes that no UTF-8 has ahead of c"},
		{"\xff\xef\xbf\xbd", 0, 0xfd, "\xff\xef\xbf\xbd", 4, "no c among bytes above 127"},
		{" ab) c", -1, ')', "ab", 4, "from below 0"},
		{" ab) c", math.MinInt, ')', "ab", 4, "from the least integer"},
		{" ab) c", 6, ')', "", 6, "from the end, behind a c"},
		{" ab) ", 7, ')', "", 5, "from above the end"},
		{" ab)", math.MaxInt, ')', "", 4, "from the greatest integer"},
		{"ab ", 3, 'b', "", 3, "from the end, behind a blank"},
	} {
		if text, next := source.Until(c.s, c.at, c.c); text != c.want || next != c.next {
			t.Errorf("%s: %q from %d on until %q: %q, %d", c.what, c.s, c.at, c.c, text, next)
		}
	}
}

// P6.2
func TestLine(t *testing.T) {
	for _, c := range []struct {
		s        string
		at, want int
		what     string
	}{
		{"ab\ncd", 0, 3, "a line feed later"},
		{"ab\ncd", 1, 3, "from within a line"},
		{"ab\ncd", 2, 3, "from the line feed"},
		{"ab\ncd", 3, 5, "from behind the line feed"},
		{"ab\ncd\nef", 0, 3, "the first one of several"},
		{"ab\ncd\nef", 3, 6, "the second one of several"},
		{"ab\ncd\nef", 6, 8, "none behind several"},
		{"ab\n", 0, 3, "a line feed at the end"},
		{"ab\n", 2, 3, "from the line feed at the end"},
		{"ab\n", 3, 3, "from the end, behind a line feed"},
		{"\n\n\n", 0, 1, "lines that are empty"},
		{"\n\n\n", 1, 2, "from a line that is empty"},
		{"\n\n\n", 2, 3, "from the last line feed"},
		{"ab", 0, 2, "no line feed"},
		{"ab", 2, 2, "no line feed, from the end"},
		{"", 0, 0, "an empty text"},
		{"", -1, 0, "an empty text from below 0"},
		{"", 1, 0, "an empty text from above the end"},
		{"ab\rcd", 0, 5, "another blank is no line feed"},
		{"a\r\nb", 0, 3, "a line feed behind another blank"},
		{"a\u0085\u2028b", 0, 7, "other ends of lines are none"},
		{"é€\na", 0, 6, "bytes above 127 ahead of a line feed"},
		{"é\na", 1, 3, "from within bytes that tell one letter"},
		{"\x8a\xff\xc3\na", 0, 4, "bytes that are no valid UTF-8 ahead of a line feed"},
		{"\xff\x8a", 0, 2, "bytes that are no valid UTF-8, and no line feed"},
		{"ab\ncd\n", -1, 3, "from below 0"},
		{"ab\ncd\n", math.MinInt, 3, "from the least integer"},
		{"ab\ncd\n", 6, 6, "from the end"},
		{"ab\ncd\n", 7, 6, "from above the end"},
		{"ab\ncd\n", math.MaxInt, 6, "from the greatest integer"},
	} {
		if next := source.Line(c.s, c.at); next != c.want {
			t.Errorf("%s: %q from %d on: %d", c.what, c.s, c.at, next)
		}
	}
}

// P6.3
func TestPlace(t *testing.T) {
	for _, c := range []struct {
		s            string
		at           int
		line, column int
		what         string
	}{
		{"ab\ncd", 0, 1, 1, "the begin"},
		{"ab\ncd", 1, 1, 2, "within the first line"},
		{"ab\ncd", 2, 1, 3, "right ahead of a line feed"},
		{"ab\ncd", 3, 2, 1, "right behind a line feed"},
		{"ab\ncd", 4, 2, 2, "within the second line"},
		{"ab\ncd", 5, 2, 3, "the end"},
		{"ab\ncd\n", 5, 2, 3, "right ahead of the line feed at the end"},
		{"ab\ncd\n", 6, 3, 1, "the end, right behind a line feed"},
		{"a\nbc\n\nde", 7, 4, 2, "a later line"},
		{"a\nbc\n\nde", 5, 3, 1, "a line that is empty"},
		{"a\nbc\n\nde", 6, 4, 1, "right behind a line that is empty"},
		{"\n\n\n", 0, 1, 1, "the first of lines that are empty"},
		{"\n\n\n", 1, 2, 1, "the second of lines that are empty"},
		{"\n\n\n", 2, 3, 1, "the third of lines that are empty"},
		{"\n\n\n", 3, 4, 1, "the end of lines that are empty"},
		{"", 0, 1, 1, "an empty text"},
		{"", -1, 1, 1, "an empty text, below 0"},
		{"", 1, 1, 1, "an empty text, above the end"},
		{"ab", 2, 1, 3, "the end of one line"},
		{"a\rb\tc\x00d", 7, 1, 8, "other blanks are one byte each"},
		{"a\u0085\u2028b", 7, 1, 8, "other ends of lines are none"},
		{"é€a", 5, 1, 6, "columns count bytes"},
		{"é€a", 1, 1, 2, "within a letter of two bytes"},
		{"é€a", 3, 1, 4, "within a letter of three bytes"},
		{"é\né", 3, 2, 1, "right behind a line feed behind a letter of two bytes"},
		{"é\né", 4, 2, 2, "within a letter on the second line"},
		{"é\né", 5, 2, 3, "the end behind a letter on the second line"},
		{"\xff\xfe\n\xc3\n\xe2\x82", 2, 1, 3, "ahead of a line feed behind bytes that no UTF-8 has"},
		{"\xff\xfe\n\xc3\n\xe2\x82", 5, 3, 1, "behind a line feed that stands where a letter goes on"},
		{"\xff\xfe\n\xc3\n\xe2\x82", 7, 3, 3, "the end behind a letter that is cut off"},
		{"\x8a\xff", 2, 1, 3, "bytes that are no valid UTF-8, and no line feed"},
		{"\U0001f600\n\U0001f600", 9, 2, 5, "letters of four bytes"},
		{"ab\ncd", -1, 1, 1, "below 0"},
		{"ab\ncd", math.MinInt, 1, 1, "the least integer"},
		{"ab\ncd", 6, 2, 3, "above the end"},
		{"ab\ncd", math.MaxInt, 2, 3, "the greatest integer"},
	} {
		if line, column := source.Place(c.s, c.at); line != c.line || column != c.column {
			t.Errorf("%s: %d of %q: %d, %d", c.what, c.at, c.s, line, column)
		}
	}
}

// TestBlanks has each byte there is, within a word, and first (P6.1, P6.2).
func TestBlanks(t *testing.T) {
	for b := range 256 {
		s := "a" + string([]byte{byte(b)}) + "b"
		want, text := s, s[1:]
		if b <= 32 {
			want, text = "a", "b"
		}
		if word, begin, end := source.Token(s, 0); word != want || begin != 0 || end != len(want) {
			t.Errorf("%q: %q, %d, %d", s, word, begin, end)
		}
		if word, begin, end := source.Token(s, 1); word != text || begin != 3-len(text) || end != 3 {
			t.Errorf("%q from 1 on: %q, %d, %d", s, word, begin, end)
		}
		ahead, left, _ := strings.Cut(text, ")")
		if told, next := source.Until(s, 1, ')'); told != ahead || next != 3-len(left) {
			t.Errorf("%q from 1 on: %q, %d", s, told, next)
		}
	}
}

// TestLong has a text that is far longer than a source may be (P6.1 to P6.3).
func TestLong(t *testing.T) {
	many := 100000
	word, blanks := strings.Repeat("\xffx", many), strings.Repeat(" \n", many)
	s := blanks + word + blanks
	if told, begin, end := source.Token(s, 0); told != word || begin != 2*many || end != 4*many {
		t.Errorf("a long word: %d bytes, %d, %d", len(told), begin, end)
	}
	if told, begin, end := source.Token(s, 4*many); told != "" || begin != len(s) || end != len(s) {
		t.Errorf("long blanks: %d bytes, %d, %d", len(told), begin, end)
	}
	if told, next := source.Until(s, 2*many, ' '); told != word || next != 4*many+1 {
		t.Errorf("until a blank: %d bytes, %d", len(told), next)
	}
	if next := source.Line(s, 2*many); next != 4*many+2 {
		t.Errorf("the next line: %d", next)
	}
	if line, column := source.Place(s, 4*many); line != many+1 || column != 2*many+1 {
		t.Errorf("the place: %d, %d", line, column)
	}
	if line, column := source.Place(s, len(s)); line != 2*many+1 || column != 1 {
		t.Errorf("the end's place: %d, %d", line, column)
	}
}
