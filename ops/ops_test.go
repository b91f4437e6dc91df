package ops_test

import (
	"math"
	"strings"
	"testing"

	"nostos/ops"
)

// table is the chapter's: each word's number and name, and the kinds that it is of.
var table = []struct {
	op    int
	name  string
	kinds string
}{
	{1, "EXIT", "only"},
	{2, "(LIT)", "inner wide"},
	{3, "(BRANCH)", "inner wide"},
	{4, "(0BRANCH)", "inner wide"},
	{5, "(DO)", "inner wide"},
	{6, "(LOOP)", "inner wide"},
	{7, "(+LOOP)", "inner wide"},
	{8, "(VAR)", "inner wide"},
	{9, "(DOES)", "inner"},
	{10, "(TEXT)", "inner wide"},
	{11, "(MARK)", "inner wide"},
	{12, "COMPILE,", ""},
	{13, "DUP", ""},
	{14, "DROP", ""},
	{15, "SWAP", ""},
	{16, "OVER", ""},
	{17, "ROT", ""},
	{18, "NIP", ""},
	{19, "TUCK", ""},
	{20, "?DUP", ""},
	{21, "2DUP", ""},
	{22, "2DROP", ""},
	{23, "2SWAP", ""},
	{24, "2OVER", ""},
	{25, "PICK", ""},
	{26, "ROLL", ""},
	{27, "DEPTH", ""},
	{28, "+", ""},
	{29, "-", ""},
	{30, "*", ""},
	{31, "/", ""},
	{32, "MOD", ""},
	{33, "/MOD", ""},
	{34, "*/", ""},
	{35, "*/MOD", ""},
	{36, "1+", ""},
	{37, "1-", ""},
	{38, "2*", ""},
	{39, "2/", ""},
	{40, "NEGATE", ""},
	{41, "ABS", ""},
	{42, "MIN", ""},
	{43, "MAX", ""},
	{44, "AND", ""},
	{45, "OR", ""},
	{46, "XOR", ""},
	{47, "INVERT", ""},
	{48, "LSHIFT", ""},
	{49, "RSHIFT", ""},
	{50, "=", ""},
	{51, "<>", ""},
	{52, "<", ""},
	{53, ">", ""},
	{54, "U<", ""},
	{55, "0=", ""},
	{56, "0<", ""},
	{57, "0<>", ""},
	{58, "0>", ""},
	{59, "WITHIN", ""},
	{60, "TRUE", ""},
	{61, "FALSE", ""},
	{62, "CELLS", ""},
	{63, "CELL+", ""},
	{64, "F+", ""},
	{65, "F-", ""},
	{66, "F*", ""},
	{67, "F/", ""},
	{68, "FMIN", ""},
	{69, "FMAX", ""},
	{70, "FNEGATE", ""},
	{71, "FABS", ""},
	{72, "FSQRT", ""},
	{73, "FLOOR", ""},
	{74, "F<", ""},
	{75, "F=", ""},
	{76, "S>F", ""},
	{77, "F>S", ""},
	{78, "@", ""},
	{79, "!", ""},
	{80, "+!", ""},
	{81, "C@", ""},
	{82, "C!", ""},
	{83, "HERE", ""},
	{84, "ALLOT", ""},
	{85, ",", ""},
	{86, "C,", ""},
	{87, "ALIGN", ""},
	{88, "BASE", ""},
	{89, "DECIMAL", ""},
	{90, "HEX", ""},
	{91, ">R", "only"},
	{92, "R>", "only"},
	{93, "R@", "only"},
	{94, "I", "only"},
	{95, "J", "only"},
	{96, "UNLOOP", "only"},
	{97, "LEAVE", "only"},
	{98, "IF", "now only"},
	{99, "ELSE", "now only"},
	{100, "THEN", "now only"},
	{101, "BEGIN", "now only"},
	{102, "AGAIN", "now only"},
	{103, "UNTIL", "now only"},
	{104, "WHILE", "now only"},
	{105, "REPEAT", "now only"},
	{106, "DO", "now only"},
	{107, "LOOP", "now only"},
	{108, "+LOOP", "now only"},
	{109, "RECURSE", "now only"},
	{110, ":", ""},
	{111, ";", "now only"},
	{112, "IMMEDIATE", ""},
	{113, "CONSTANT", ""},
	{114, "VARIABLE", ""},
	{115, "CREATE", ""},
	{116, "DOES>", "now only"},
	{117, "MARKER", ""},
	{118, "'", ""},
	{119, "[']", "now only"},
	{120, "LITERAL", "now only"},
	{121, "POSTPONE", "now only"},
	{122, "[", "now"},
	{123, "]", ""},
	{124, "EXECUTE", ""},
	{125, "CHAR", ""},
	{126, "[CHAR]", "now only"},
	{127, "(", "now"},
	{128, "\\", "now"},
	{129, ".\"", "now"},
	{130, "EMIT", ""},
	{131, "CR", ""},
	{132, "SPACE", ""},
	{133, ".", ""},
	{134, "TYPE", ""},
	{135, "KEY", ""},
	{136, "THROW", ""},
	{137, "ABORT", ""},
}

// mixed is a name whose letters are small and capital in turn.
func mixed(name string) string {
	turned := []byte(strings.ToLower(name))
	for at := 0; at < len(turned); at += 2 {
		turned[at] = strings.ToUpper(name)[at]
	}
	return string(turned)
}

// TestWords has all words of the table: their names (P8.1).
func TestWords(t *testing.T) {
	if len(table) != 137 {
		t.Fatalf("%d words", len(table))
	}
	for at, w := range table {
		if w.op != at+1 {
			t.Errorf("%q: stands at %d", w.name, at+1)
		}
		if name := ops.Name(w.op); name != w.name {
			t.Errorf("%d: %q", w.op, name)
		}
		if !ops.Is(w.op) {
			t.Errorf("%d: is none", w.op)
		}
	}
}

// TestFindWords finds all words of the table by their names, in capital, small and mixed letters, but inner ones (P8.1).
func TestFindWords(t *testing.T) {
	for _, w := range table {
		want := w.op
		if strings.Contains(w.kinds, "inner") {
			want = 0
		}
		for _, name := range []string{w.name, strings.ToLower(w.name), mixed(w.name)} {
			if op := ops.Find(name); op != want {
				t.Errorf("%q: %d", name, op)
			}
		}
	}
}

// P8.1
func TestFind(t *testing.T) {
	for _, c := range []struct {
		name string
		op   int
		what string
	}{
		{"dup", 13, "the chapter's example"},
		{"EXIT", 1, "the first word"},
		{"exit", 1, "the first word, in small letters"},
		{"ABORT", 137, "the last word"},
		{"abort", 137, "the last word, in small letters"},
		{"(LIT)", 0, "the first inner word"},
		{"(lit)", 0, "the first inner word, in small letters"},
		{"(MARK)", 0, "the last inner word"},
		{"(mark)", 0, "the last inner word, in small letters"},
		{"COMPILE,", 12, "the first word behind the inner ones"},
		{"DO", 106, "a word that an inner one has between brackets"},
		{"LOOP", 107, "another one"},
		{"+LOOP", 108, "a third one"},
		{"DOES>", 116, "a word that an inner one begins as"},
		{"(", 127, "the word that inner ones begin with"},
		{"()", 0, "brackets around nothing"},
		{"(DO", 0, "an inner word that ends sooner"},
		{"LIT", 0, "an inner word's name without brackets"},
		{"(EXIT)", 0, "a word between brackets"},
		{"", 0, "an empty name"},
		{"SQ", 0, "a name that stands nowhere"},
		{"DU", 0, "the begin of a word"},
		{"UP", 0, "the end of a word"},
		{"DUPE", 0, "a word that goes on"},
		{"2DUP", 21, "a word that ends as another one"},
		{"?DUP", 20, "another word that ends as that one"},
		{"3DUP", 0, "a name that ends as a word"},
		{"/", 31, "the begin of another word"},
		{"/MOD", 33, "a word that begins as another one, and ends as one"},
		{"*/", 34, "a word made of two"},
		{"*/MOD", 35, "a word made of three"},
		{"/*", 0, "two words, the other way round"},
		{"0<", 56, "a word that another one begins with"},
		{"0<>", 57, "a word that begins with another one"},
		{"0>", 58, "a word that another one ends in"},
		{"0", 0, "a number"},
		{"12", 0, "the number of a word"},
		{" DUP", 0, "a blank ahead"},
		{"DUP ", 0, "a blank behind"},
		{"D UP", 0, "a blank within"},
		{"DUP DROP", 0, "two words"},
		{" ", 0, "a blank"},
		{"DUP\n", 0, "a line feed behind"},
		{"\x00", 0, "a byte of 0"},
		{"DUP\x00", 0, "a byte of 0 behind"},
		{"IMMEDIATE", 112, "the longest word"},
		{"IMMEDIATELY", 0, "a longer name than any word's"},
		{strings.Repeat("DUP", 11), 0, "a longer name than a word may have"},
		{strings.Repeat("a", 1<<16), 0, "a name of 2^16 bytes"},
		{"[", 122, "the sign that is 32 below {"},
		{"{", 0, "the sign that is 32 above ["},
		{"@", 78, "the sign that is 32 below `"},
		{"`", 0, "the sign that is 32 above @"},
		{"\\", 128, "the sign that is 32 below |"},
		{"|", 0, "the sign that is 32 above \\"},
		{"]", 123, "the sign that is 32 below }"},
		{"}", 0, "the sign that is 32 above ]"},
		{".\"", 129, "a point, and a quote"},
		{"\"", 0, "a quote"},
		{"['x']", 0, "a sign more"},
		{"s>f", 76, "letters around a sign"},
		{"é", 0, "a letter of two bytes"},
		{"DUPé", 0, "a letter of two bytes behind"},
		{"ſwap", 0, "a letter whose capital one is S"},
		{"p\u0131ck", 0, "a letter whose capital one is I"},
		{"p\u0131c\u212a", 0, "letters that look like others"},
		{"\xff", 0, "a byte that no UTF-8 has"},
		{"DUP\xff", 0, "a byte that no UTF-8 has behind"},
		{"\x80DUP", 0, "a byte above 127 ahead"},
		{"\xc4\xd5\xd0", 0, "a word's letters, and 128"},
		{"\xe4\xf5\xf0", 0, "a word's small letters, and 128"},
		{"D\xc3UP", 0, "a letter of two bytes, cut off, within"},
		{"\ufffd", 0, "the letter that stands for what is no valid UTF-8"},
	} {
		if op := ops.Find(c.name); op != c.op {
			t.Errorf("%s: %q: %d", c.what, c.name, op)
		}
	}
}

// TestKinds has all words of the table: the kinds that they are of, and those that they aren't of (P8.2).
func TestKinds(t *testing.T) {
	for _, w := range table {
		for _, k := range kinds() {
			if is := k.is(w.op); is != strings.Contains(w.kinds, k.name) {
				t.Errorf("%d, %q: %s: %v", w.op, w.name, k.name, is)
			}
		}
	}
}

// kinds are the calls that tell a kind of words.
func kinds() []struct {
	name string
	is   func(op int) bool
} {
	return []struct {
		name string
		is   func(op int) bool
	}{
		{"inner", ops.Inner},
		{"now", ops.Now},
		{"only", ops.Only},
		{"wide", ops.Wide},
	}
}

// TestNone has numbers that are no word's: no name, and of no kind (P8.1, P8.2).
func TestNone(t *testing.T) {
	for _, op := range []int{
		math.MinInt, math.MinInt + 1, -1 << 32, -138, -137, -98, -11, -3, -2, -1, 0,
		138, 139, 255, 256, 257, 256 + 2, 256 + 98, 1 << 16, 1<<16 + 2, 1 << 32, 1<<32 + 2, 1<<32 + 98, math.MaxInt - 1, math.MaxInt,
	} {
		if ops.Is(op) {
			t.Errorf("%d: is one", op)
		}
		if name := ops.Name(op); name != "" {
			t.Errorf("%d: %q", op, name)
		}
		for _, k := range kinds() {
			if k.is(op) {
				t.Errorf("%d: is %s", op, k.name)
			}
		}
	}
}
