package defs_test

import (
	"slices"
	"strings"
	"testing"

	"nostos/api"
	"nostos/defs"
)

// list are words, of which a name tells the place of each: the first one has the code 1000, the next one 1001, and so on.
func list(names ...string) []api.Word {
	var l []api.Word
	for n, name := range names {
		bare := strings.TrimLeft(name, "-!")
		kind := name[:len(name)-len(bare)]
		l = append(l, api.Word{Name: bare, Code: 1000 + n, Hid: strings.Contains(kind, "-"), Now: strings.Contains(kind, "!")})
	}
	return l
}

// TestFound has names that words have, and such that they haven't; a minus sign stands for a hidden word, an exclamation mark for one that is done at once (P12.1).
func TestFound(t *testing.T) {
	for _, c := range []struct {
		words []api.Word
		name  string
		code  int
		now   bool
		is    bool
	}{
		{nil, "DUP", 13, false, true}, {nil, "dup", 13, false, true}, {nil, "dUp", 13, false, true},
		{nil, "IF", 98, true, true}, {nil, "if", 98, true, true}, {nil, ";", 111, true, true}, {nil, ":", 110, false, true},
		{nil, "EXIT", 1, false, true}, {nil, "exit", 1, false, true}, {nil, "COMPILE,", 12, false, true}, {nil, "ABORT", 137, false, true},
		{nil, ".\"", 129, true, true}, {nil, "[", 122, true, true}, {nil, "]", 123, false, true}, {nil, "\\", 128, true, true}, {nil, "'", 118, false, true},
		{nil, "(LIT)", 0, false, false}, {nil, "(lit)", 0, false, false}, {nil, "(MARK)", 0, false, false}, {nil, "(TEXT)", 0, false, false}, {nil, "(VAR)", 0, false, false},
		{nil, "", 0, false, false}, {nil, "DUPP", 0, false, false}, {nil, "DU", 0, false, false}, {nil, " DUP", 0, false, false}, {nil, "X", 0, false, false}, {nil, "13", 0, false, false}, {nil, strings.Repeat("X", 40), 0, false, false},
		{list("X", "Y"), "X", 1000, false, true}, {list("X", "Y"), "x", 1000, false, true}, {list("X", "Y"), "y", 1001, false, true}, {list("X", "Y"), "Z", 0, false, false},
		{list("x", "Y"), "X", 1000, false, true}, {list("xY"), "Xy", 1000, false, true},
		{list("X", "!Y"), "Y", 1001, true, true}, {list("!X", "Y"), "Y", 1001, false, true}, {list("!X"), "x", 1000, true, true},
		{list("X", "X", "X"), "X", 1002, false, true}, {list("X", "!X"), "X", 1001, true, true}, {list("!X", "X"), "X", 1001, false, true}, {list("X", "x", "Y"), "X", 1001, false, true},
		{list("X", "-X"), "X", 1000, false, true}, {list("!X", "-X"), "X", 1000, true, true}, {list("X", "-!X"), "X", 1000, false, true}, {list("X", "X", "-X", "-X"), "x", 1001, false, true},
		{list("-X"), "X", 0, false, false}, {list("-X", "-!X"), "x", 0, false, false},
		{list("DUP"), "dup", 1000, false, true}, {list("!DUP"), "DUP", 1000, true, true}, {list("IF"), "if", 1000, false, true}, {list("!IF"), "if", 1000, true, true},
		{list("-DUP"), "dup", 13, false, true}, {list("-!DUP"), "dup", 13, false, true}, {list("-IF"), "if", 98, true, true}, {list("DUP", "-DUP"), "dup", 1000, false, true},
		{list("(LIT)"), "(lit)", 1000, false, true}, {list("-(LIT)"), "(LIT)", 0, false, false},
		{[]api.Word{{Name: "A", Code: 13}}, "A", 13, false, true}, {[]api.Word{{Name: "A", Code: 98}}, "A", 98, false, true}, {[]api.Word{{Name: "A", Now: true}}, "A", 0, true, true}, {[]api.Word{{Name: "A"}}, "A", 0, false, true},
		{[]api.Word{{Name: "A", Code: least}}, "a", least, false, true}, {[]api.Word{{Name: "A", Code: greatest, Now: true}}, "a", greatest, true, true},
	} {
		s := full(64, 32, 0)
		s.Words = roomy(api.Word{Name: c.name, Code: -74, Now: true}, c.words...)
		words := slices.Clone(whole(s.Words))
		if code, now, is := defs.Found(s, c.name); code != c.code || now != c.now || is != c.is {
			t.Errorf("%q of %v: %d, %v, %v", c.name, c.words, code, now, is)
		}
		if !slices.Equal(whole(s.Words), words) {
			t.Errorf("%q of %v: it is %v now", c.name, c.words, s.Words)
		}
		if code, now, is := defs.Found(api.State{Words: c.words}, c.name); code != c.code || now != c.now || is != c.is {
			t.Errorf("%q of %v alone: %d, %v, %v", c.name, c.words, code, now, is)
		}
	}
}

// atOnce are the words that are done at once, and inner the first one and the last one that no name finds, as chapter 8 has them.
const (
	atOnce     = " 98 99 100 101 102 103 104 105 106 107 108 109 111 116 119 120 121 122 126 127 128 129 "
	innerFirst = 2
	innerLast  = 11
)

// TestFoundFromTheBegin has the names of all words that there are from the begin, in capital letters and in small ones, where words hide none of them, and where hidden words have all these names (P12.1).
func TestFoundFromTheBegin(t *testing.T) {
	for _, words := range [][]api.Word{nil, hiddenWords()} {
		for n, name := range fromTheBegin() {
			op := n + 1
			want, now := op, strings.Contains(atOnce, " "+decimal(op)+" ")
			inner := op >= innerFirst && op <= innerLast
			if inner {
				want = 0
			}
			for _, spelt := range []string{name, strings.ToLower(name)} {
				if code, at, is := defs.Found(api.State{Words: words}, spelt); code != want || at != now || is == inner {
					t.Errorf("%q: %d, %v, %v", spelt, code, at, is)
				}
			}
		}
	}
}

// decimal is a small number's text.
func decimal(n int) string {
	if n < 10 {
		return string(rune('0' + n))
	}
	return decimal(n/10) + decimal(n%10)
}

// hiddenWords have the names of all words from the begin, and are hidden.
func hiddenWords() []api.Word {
	var l []api.Word
	for _, name := range fromTheBegin() {
		l = append(l, api.Word{Name: name, Code: 1000, Now: true, Hid: true})
	}
	return l
}

// fromTheBegin are the names of the words that there are from the begin, as chapter 8 has them.
func fromTheBegin() []string {
	return strings.Fields(`EXIT (LIT) (BRANCH) (0BRANCH) (DO) (LOOP) (+LOOP) (VAR) (DOES) (TEXT)
		(MARK) COMPILE, DUP DROP SWAP OVER ROT NIP TUCK ?DUP
		2DUP 2DROP 2SWAP 2OVER PICK ROLL DEPTH + - *
		/ MOD /MOD */ */MOD 1+ 1- 2* 2/ NEGATE
		ABS MIN MAX AND OR XOR INVERT LSHIFT RSHIFT =
		<> < > U< 0= 0< 0<> 0> WITHIN TRUE
		FALSE CELLS CELL+ F+ F- F* F/ FMIN FMAX FNEGATE
		FABS FSQRT FLOOR F< F= S>F F>S @ ! +!
		C@ C! HERE ALLOT , C, ALIGN BASE DECIMAL HEX
		>R R> R@ I J UNLOOP LEAVE IF ELSE THEN
		BEGIN AGAIN UNTIL WHILE REPEAT DO LOOP +LOOP RECURSE :
		; IMMEDIATE CONSTANT VARIABLE CREATE DOES> MARKER ' ['] LITERAL
		POSTPONE [ ] EXECUTE CHAR [CHAR] ( \ ." EMIT
		CR SPACE . TYPE KEY THROW ABORT`)
}

// TestSay has texts and rooms: as many bytes as there is room for, one fewer, and one more (P12.1).
func TestSay(t *testing.T) {
	for _, c := range []struct {
		out, text string
		room      int
		thrown    int
	}{
		{"", "", 0, 0}, {"", "a", 0, -57}, {"", "a", 1, 0}, {"", "a", 2, 0}, {"25 ", "", 3, 0}, {"25 ", "", 2, -57}, {"25 ", "", 0, -57}, {"25 ", "", 4, 0},
		{"25 ", "ab", 5, 0}, {"25 ", "ab", 6, 0}, {"25 ", "ab", 4, -57}, {"25 ", "ab", 3, -57}, {"25 ", "ab", 0, -57}, {"25 ", "ab", 65536, 0}, {"25 ", "ab", greatest, 0},
		{"", "", -1, -57}, {"", "a", -1, -57}, {"25 ", "", -1, -57}, {"25 ", "a", least, -57}, {"", "", least, -57},
		{"25 ", "\x00\xFF\n", 6, 0}, {"\xFF", "\xC3\xA9", 3, 0}, {"\xFF", "\xC3\xA9", 2, -57}, {strings.Repeat("a", 300), strings.Repeat("b", 300), 600, 0}, {strings.Repeat("a", 300), strings.Repeat("b", 300), 599, -57},
	} {
		made := func() api.State {
			s := full(64, 32, 3)
			s.Out = roomy(byte('x'), []byte(c.out)...)
			return s
		}
		s, want := made(), api.State{}
		if c.thrown == 0 {
			want = made()
			want.Out = []byte(c.out + c.text)
		}
		x := setup("source")
		x.Room = c.room
		told, thrown := defs.Say(s, x, c.text)
		if !same(told, want) || thrown != c.thrown {
			t.Errorf("%q behind %q, %d: %+v, %d", c.text, c.out, c.room, told, thrown)
		}
		if !sameRoom(s, made()) {
			t.Errorf("%q behind %q, %d: handed in, it is %+v now", c.text, c.out, c.room, s)
		}
	}
}

// TestSayOften says bytes one by one, up to the room, and forks on the way: what was told before stays (P12.1; R3).
func TestSayOften(t *testing.T) {
	var all []api.State
	var texts []string
	s, said := api.State{}, ""
	x := api.Setup{Room: 40}
	for n := range 40 {
		all, texts = append(all, s), append(texts, said)
		fork, _ := defs.Say(s, x, "?")
		all, texts = append(all, fork), append(texts, said+"?")
		var thrown int
		c := string(rune('a' + n%26))
		if s, thrown = defs.Say(s, x, c); thrown != 0 {
			t.Fatalf("%d: %d", n, thrown)
		}
		said += c
	}
	for n, one := range all {
		if string(one.Out) != texts[n] {
			t.Errorf("the state %d: %q, not %q", n, one.Out, texts[n])
		}
	}
	if _, thrown := defs.Say(s, x, "a"); thrown != -57 || string(s.Out) != said {
		t.Errorf("%d, %q", thrown, s.Out)
	}
}
