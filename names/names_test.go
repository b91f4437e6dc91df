package names_test

import (
	"strings"
	"testing"

	"nostos/api"
	"nostos/names"
)

// P7.1
func TestFold(t *testing.T) {
	for _, c := range []struct{ s, want, what string }{
		{"a1b", "A1B", "the chapter's example"},
		{"", "", "an empty text"},
		{"a", "A", "the first letter"},
		{"z", "Z", "the last letter"},
		{"m", "M", "a letter between"},
		{"`", "`", "the byte right ahead of a"},
		{"{", "{", "the byte right behind z"},
		{"`az{", "`AZ{", "the first and the last letter, and the bytes around them"},
		{"@", "@", "the byte right ahead of A"},
		{"[", "[", "the byte right behind Z"},
		{"abcdefghijklmnopqrstuvwxyz", "ABCDEFGHIJKLMNOPQRSTUVWXYZ", "all letters"},
		{"ABCDEFGHIJKLMNOPQRSTUVWXYZ", "ABCDEFGHIJKLMNOPQRSTUVWXYZ", "all capital letters"},
		{"0123456789", "0123456789", "figures"},
		{"!\"#$%&'()*+,-./:;<=>?@[\\]^_`{|}~", "!\"#$%&'()*+,-./:;<=>?@[\\]^_`{|}~", "signs"},
		{"\x00\t\n\r \x1f\x7f", "\x00\t\n\r \x1f\x7f", "bytes that aren't shown"},
		{"dUp", "DUP", "small and capital letters"},
		{"DUP", "DUP", "a text that is folded already"},
		{"A1B", "A1B", "a text that is folded already, and has a figure"},
		{"(0branch)", "(0BRANCH)", "letters between signs"},
		{"dup dup", "DUP DUP", "a blank between"},
		{" ", " ", "a blank"},
		{"aé€z", "Aé€Z", "letters of several bytes between"},
		{"éßñ", "éßñ", "letters of two bytes stay small"},
		{"ſıﬁ", "ſıﬁ", "letters whose capital ones are A to Z stay"},
		{"\u212a\u0130\uff41", "\u212a\u0130\uff41", "letters that look like others stay"},
		{"\xe1\xfa", "\xe1\xfa", "the letters a and z, and 128"},
		{"a\xffz", "A\xffZ", "a byte that no UTF-8 has"},
		{"\x80a\xc3", "\x80A\xc3", "bytes that are no valid UTF-8"},
		{"\xc3a\xa9", "\xc3A\xa9", "a letter where another one of two bytes goes on"},
		{"\xe2\x82", "\xe2\x82", "a letter of three bytes, cut off"},
		{"\xed\xa0\x80b", "\xed\xa0\x80B", "half of a pair"},
		{"\xc1\xa1", "\xc1\xa1", "the letter a in two bytes"},
		{"\xef\xbf\xbdc", "\xef\xbf\xbdC", "the letter that stands for what is no valid UTF-8"},
		{strings.Repeat("az", 5000), strings.Repeat("AZ", 5000), "a long text"},
	} {
		if told := names.Fold(c.s); told != c.want {
			t.Errorf("%s: %q: %q", c.what, c.s, told)
		}
	}
}

// P7.1
func TestMay(t *testing.T) {
	for _, c := range []struct {
		s      string
		thrown int
		what   string
	}{
		{"", -16, "an empty text"},
		{"a", 0, "one byte"},
		{strings.Repeat("a", 2), 0, "two bytes"},
		{strings.Repeat("a", 30), 0, "30 bytes"},
		{strings.Repeat("a", 31), 0, "31 bytes"},
		{strings.Repeat("a", 32), -19, "32 bytes"},
		{strings.Repeat("a", 33), -19, "33 bytes"},
		{strings.Repeat("a", 256), -19, "256 bytes"},
		{strings.Repeat("a", 1<<16), -19, "2^16 bytes"},
		{strings.Repeat("a", 1<<16+31), -19, "2^16 bytes, and 31"},
		{" ", 0, "a blank"},
		{"\x00", 0, "a byte of 0"},
		{"\n", 0, "a line feed"},
		{"12", 0, "figures"},
		{"\xff", 0, "a byte that no UTF-8 has"},
		{strings.Repeat("\xff", 31), 0, "31 bytes that no UTF-8 has"},
		{strings.Repeat("\xff", 32), -19, "32 bytes that no UTF-8 has"},
		{strings.Repeat("é", 15) + "a", 0, "31 bytes, of 16 letters"},
		{strings.Repeat("é", 16), -19, "32 bytes, of 16 letters"},
		{strings.Repeat("é", 31), -19, "62 bytes, of 31 letters"},
		{strings.Repeat("€", 10) + "\xe2", 0, "31 bytes, the last one cut off"},
		{strings.Repeat("€", 10) + "\xe2\x82", -19, "32 bytes, the last two cut off"},
	} {
		if thrown := names.May(c.s); thrown != c.thrown {
			t.Errorf("%s: %q: %d", c.what, c.s, thrown)
		}
	}
}

// named are words of these names, none of them hidden.
func named(all ...string) []api.Word {
	var l []api.Word
	for _, name := range all {
		l = append(l, api.Word{Name: name})
	}
	return l
}

// hiding is a list whose words at these places are hidden.
func hiding(l []api.Word, places ...int) []api.Word {
	for _, at := range places {
		l[at].Hid = true
	}
	return l
}

// P7.2
func TestFind(t *testing.T) {
	for _, c := range []struct {
		l    []api.Word
		name string
		at   int
		what string
	}{
		{nil, "A", -1, "a nil list"},
		{nil, "", -1, "a nil list, and an empty name"},
		{[]api.Word{}, "A", -1, "an empty list"},
		{[]api.Word{}, "", -1, "an empty list, and an empty name"},
		{named("A"), "A", 0, "the only one"},
		{named("A"), "B", -1, "not the only one"},
		{named("A", "B", "C"), "D", -1, "a name that stands nowhere"},
		{named("A", "B", "C"), "A", 0, "a name that stands first alone"},
		{named("A", "B", "C"), "B", 1, "a name that stands between alone"},
		{named("A", "B", "C"), "C", 2, "a name that stands last alone"},
		{named("A", "B", "A", "C"), "A", 2, "a name that stands twice"},
		{named("A", "B", "A", "C", "A"), "A", 4, "a name that stands first, last, and between"},
		{named("A", "A", "A"), "A", 2, "a name that is all there is"},
		{named("A", "B"), "a", 0, "a small letter asked for"},
		{named("a", "B"), "A", 0, "a small letter in the list"},
		{named("a", "B"), "a", 0, "a small letter in both"},
		{named("dUp", "DROP"), "DuP", 0, "small and capital letters in both"},
		{named("DUP", "dup", "Dup"), "duP", 2, "names that differ by their case alone"},
		{named("SQ1", "SQ2", "SQ"), "SQ1", 0, "names that differ by their last byte"},
		{named("ASQ", "BSQ", "SQ"), "asq", 0, "names that differ by their first byte"},
		{named("SQ", "SQR", "S"), "SQ", 0, "names that differ by their length"},
		{named("SQ"), "SQR", -1, "a name that goes on"},
		{named("SQR"), "SQ", -1, "a name that ends sooner"},
		{named("SQ"), "S Q", -1, "a blank within the name asked for"},
		{named("SQ"), " SQ", -1, "a blank ahead of the name asked for"},
		{named("SQ", "SQ\x00"), "SQ", 0, "a byte of 0 behind"},
		{named("@", "`", "[", "{"), "@", 0, "signs that are 32 apart, the lower one"},
		{named("@", "`", "[", "{"), "`", 1, "signs that are 32 apart, the upper one"},
		{named("@", "`", "[", "{"), "[", 2, "signs behind the letters, the lower one"},
		{named("@", "`", "[", "{"), "{", 3, "signs behind the letters, the upper one"},
		{named("@"), "`", -1, "a sign that is 32 higher"},
		{named("A"), "!", -1, "a sign that is 32 lower"},
		{named("A", "", "B"), "", 1, "an empty name"},
		{named("", "A", ""), "", 2, "an empty name twice"},
		{named("A", "B"), "", -1, "an empty name that stands nowhere"},
		{named("", ""), "A", -1, "empty names alone"},
		{named(strings.Repeat("a", 40), "A"), strings.Repeat("A", 40), 0, "a name that is too long for a word"},
		{hiding(named("A"), 0), "A", -1, "the only one, hidden"},
		{hiding(named("A", "B", "A"), 2), "A", 0, "one that is hidden behind one that isn't"},
		{hiding(named("A", "B", "A"), 0), "A", 2, "one that isn't hidden behind one that is"},
		{hiding(named("A", "a", "A", "B"), 0, 1, 2), "A", -1, "all of that name hidden"},
		{hiding(named("A", "a", "A", "B"), 0, 2), "A", 1, "all of that name hidden but the one between"},
		{hiding(named("A", "B", "C"), 0, 1, 2), "B", -1, "all hidden"},
		{hiding(named("", "A", ""), 2), "", 0, "an empty name, hidden behind one that isn't"},
		{named("é", "É"), "é", 0, "letters of two bytes that differ by their case"},
		{named("é", "É"), "É", 1, "capital letters of two bytes"},
		{named("É"), "é", -1, "a small letter of two bytes, and its capital one"},
		{named("aé", "b"), "Aé", 0, "a letter of two bytes behind one that is turned"},
		{named("K", "\u212a"), "k", 0, "a letter that looks like another one"},
		{named("S"), "ſ", -1, "a letter whose capital one stands there"},
		{named("\xff", "\xfe"), "\xff", 0, "bytes that no UTF-8 has"},
		{named("\xff"), "\xfe", -1, "other bytes that no UTF-8 has"},
		{named("\xff"), "\ufffd", -1, "the letter that stands for what is no valid UTF-8"},
		{named("\ufffd"), "\xff", -1, "a byte that no UTF-8 has, and the letter that stands for it"},
		{named("\xc3a\xa9", "\xe1"), "\xc3A\xa9", 0, "a letter within what is no valid UTF-8"},
		{named("\xe1", "\xc1"), "\xe1", 0, "bytes above 127 that are 32 apart"},
	} {
		if at := names.Find(c.l, c.name); at != c.at {
			t.Errorf("%s: %q: %d", c.what, c.name, at)
		}
	}
}

// TestFindByNameAlone has words that differ in all but their names, and in their names alone (P7.2).
func TestFindByNameAlone(t *testing.T) {
	l := []api.Word{
		{Name: "A", Code: 256},
		{Name: "B", Code: 256, Now: true},
		{Name: "A", Code: -1, Now: true},
		{Name: "C", Code: -1},
		{Name: "B", Code: 264, Now: true, Hid: true},
	}
	for name, want := range map[string]int{"a": 2, "b": 1, "c": 3, "d": -1} {
		if at := names.Find(l, name); at != want {
			t.Errorf("%q: %d", name, at)
		}
	}
}
