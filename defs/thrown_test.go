package defs_test

import (
	"slices"
	"strings"
	"testing"

	"nostos/api"
	"nostos/defs"
)

// hasMany lets a state have so many words, the last one hidden.
func hasMany(many int) func(s *api.State, x *api.Setup) {
	return func(s *api.State, _ *api.Setup) {
		s.Words = make([]api.Word, many)
		for n := range s.Words {
			s.Words[n] = api.Word{Name: "W", Code: 256 + n, Hid: n == many-1}
		}
	}
}

// hasData lets a state have these values.
func hasData(v ...int) func(s *api.State, x *api.Setup) {
	return func(s *api.State, _ *api.Setup) { s.Data = v }
}

// at lets the next thing be laid elsewhere.
func at(here int) func(s *api.State, x *api.Setup) {
	return func(s *api.State, _ *api.Setup) { s.Here = here }
}

// both does one thing, and another one.
func both(all ...func(s *api.State, x *api.Setup)) func(s *api.State, x *api.Setup) {
	return func(s *api.State, x *api.Setup) {
		for _, one := range all {
			one(s, x)
		}
	}
}

// as leaves a state, and its setup, as they are.
func as(*api.State, *api.Setup) {}

// says lets a word be read where nothing is compiled, with that room.
func says(room int) func(s *api.State, x *api.Setup) {
	return func(s *api.State, x *api.Setup) { s.Comp, x.Room = false, room }
}

// free lets the control stack be empty.
func free(s *api.State, _ *api.Setup) { s.Ctl = nil }

// TestThrown has the very number that is thrown, the one of the first thing done that throws: memory of eight cells, Here 32, two values of four, and eight bytes of room (P12.2; R1).
func TestThrown(t *testing.T) {
	n31, n32 := strings.Repeat("n", 31), strings.Repeat("n", 32)
	for _, c := range []struct {
		op     int
		source string
		is     func(s *api.State, x *api.Setup)
		thrown int
		what   string
	}{
		{110, "", as, -16, ": of no name"}, {110, " \n ", as, -16, ": of blanks"}, {110, n31, as, 0, ": of 31 letters"}, {110, n32, as, -19, ": of 32 letters"},
		{110, "x", hasMany(255), 0, ": of 255 words"}, {110, "x", hasMany(256), -8, ": of 256 words"}, {110, "", hasMany(256), -16, ": of no name, and 256 words"}, {110, n32, hasMany(256), -19, ": of 32 letters, and 256 words"},
		{110, "x", at(64), 0, ": where nothing can be laid"}, {110, "x", at(-8), 0, ": below 0"}, {110, "x", at(greatest), 0, ": at the greatest integer"},
		{111, "", free, 0, "; of a hidden one"}, {111, "", as, -22, "; of what isn't closed"}, {111, "", both(free, hasMany(0)), -22, "; of no word"},
		{111, "", both(free, func(s *api.State, _ *api.Setup) { s.Words = s.Words[:2] }), -22, "; of one that isn't hidden"},
		{111, "", both(free, func(s *api.State, _ *api.Setup) { slices.Reverse(s.Words) }), -22, "; of a hidden one that isn't the last one"},
		{111, "", both(free, at(56)), 0, "; where one cell is left"}, {111, "", both(free, at(64)), -8, "; full"}, {111, "", both(free, at(12)), -23, "; at no cell"}, {111, "", both(free, at(-8)), -9, "; below 0"},
		{111, "", at(64), -22, "; of what isn't closed, and full"}, {111, "", both(free, hasMany(0), at(64)), -22, "; of no word, and full"}, {111, "", both(free, hasMany(256)), 0, "; of 256 words"},
		{112, "", hasMany(0), -13, "IMMEDIATE of no word"}, {112, "", hasMany(1), 0, "IMMEDIATE of one that is hidden"}, {112, "", hasMany(256), 0, "IMMEDIATE of 256 words"},
		{113, "x", hasData(), -4, "CONSTANT of no value"}, {113, "", hasData(), -4, "CONSTANT of no value, and no name"}, {113, n32, hasData(), -4, "CONSTANT of no value, and 32 letters"}, {113, "x", both(hasData(), hasMany(256), at(64)), -4, "CONSTANT of no value, 256 words, and full"},
		{113, "x", hasData(7), 0, "CONSTANT of one value"}, {113, "", as, -16, "CONSTANT of no name"}, {113, n31, as, 0, "CONSTANT of 31 letters"}, {113, n32, as, -19, "CONSTANT of 32 letters"}, {113, n32, both(hasMany(256), at(64)), -19, "CONSTANT of 32 letters, 256 words, and full"},
		{113, "x", hasMany(255), 0, "CONSTANT of 255 words"}, {113, "x", hasMany(256), -8, "CONSTANT of 256 words"}, {113, "x", both(hasMany(256), at(-8)), -8, "CONSTANT of 256 words, below 0"},
		{113, "x", at(40), 0, "CONSTANT, where three cells are left"}, {113, "x", at(48), -8, "CONSTANT, full for its last cell"}, {113, "x", at(56), -8, "CONSTANT, full for its second cell"}, {113, "x", at(64), -8, "CONSTANT, full"}, {113, "x", at(33), 0, "CONSTANT, up to the next cell"}, {113, "x", at(41), -8, "CONSTANT, up to the next cell, and full for its last one"}, {113, "x", at(-8), -9, "CONSTANT, below 0"}, {113, "x", at(-7), 0, "CONSTANT, up to 0"}, {113, "x", at(greatest), -9, "CONSTANT, up to the least integer"}, {113, "x", at(least), -9, "CONSTANT, at the least integer"},
		{114, "", as, -16, "VARIABLE of no name"}, {114, n31, as, 0, "VARIABLE of 31 letters"}, {114, n32, as, -19, "VARIABLE of 32 letters"}, {114, "x", hasMany(255), 0, "VARIABLE of 255 words"}, {114, "x", hasMany(256), -8, "VARIABLE of 256 words"}, {114, n32, both(hasMany(256), at(64)), -19, "VARIABLE of 32 letters, 256 words, and full"},
		{114, "x", at(40), 0, "VARIABLE, where three cells are left"}, {114, "x", at(48), -8, "VARIABLE, full for its last cell"}, {114, "x", at(56), -8, "VARIABLE, full for its second cell"}, {114, "x", at(64), -8, "VARIABLE, full"}, {114, "x", at(-8), -9, "VARIABLE, below 0"}, {114, "x", at(35), 0, "VARIABLE, up to the next cell"},
		{115, "", as, -16, "CREATE of no name"}, {115, n31, as, 0, "CREATE of 31 letters"}, {115, n32, as, -19, "CREATE of 32 letters"}, {115, "x", hasMany(255), 0, "CREATE of 255 words"}, {115, "x", hasMany(256), -8, "CREATE of 256 words"},
		{115, "x", at(48), 0, "CREATE, where two cells are left"}, {115, "x", at(56), -8, "CREATE, full for its second cell"}, {115, "x", at(64), -8, "CREATE, full"}, {115, "x", at(-8), -9, "CREATE, below 0"}, {115, "x", both(hasMany(256), at(-8)), -8, "CREATE of 256 words, below 0"},
		{116, "", at(56), 0, "DOES>, where one cell is left"}, {116, "", at(64), -8, "DOES>, full"}, {116, "", at(12), -23, "DOES>, at no cell"}, {116, "", at(-8), -9, "DOES>, below 0"}, {116, "", hasMany(0), 0, "DOES> of no word"},
		{117, "", as, -16, "MARKER of no name"}, {117, n31, as, 0, "MARKER of 31 letters"}, {117, n32, as, -19, "MARKER of 32 letters"}, {117, "x", hasMany(255), 0, "MARKER of 255 words"}, {117, "x", hasMany(256), -8, "MARKER of 256 words"}, {117, "x", at(56), -8, "MARKER, full for its second cell"}, {117, "x", at(64), -8, "MARKER, full"}, {117, "x", at(-8), -9, "MARKER, below 0"},
		{118, "", as, -16, "' of no name"}, {118, n32, as, -19, "' of 32 letters"}, {118, n31, as, -13, "' of 31 letters that aren't found"}, {118, "none", as, -13, "' of one that isn't found"}, {118, "x", as, -13, "' of a hidden one"}, {118, "(lit)", as, -13, "' of an inner one"}, {118, "7", as, -13, "' of a number"},
		{118, "dup", hasData(1, 2, 3), 0, "', the fourth value"}, {118, "dup", hasData(1, 2, 3, 4), -3, "', the fifth value"}, {118, "dup", hasData(1, 2, 3, 4, 5), -3, "', the sixth value"}, {118, "none", hasData(1, 2, 3, 4), -13, "' of one that isn't found, the fifth value"}, {118, "", hasData(1, 2, 3, 4), -16, "' of no name, the fifth value"}, {118, "dup", at(64), 0, "', full"},
		{119, "", as, -16, "['] of no name"}, {119, n32, as, -19, "['] of 32 letters"}, {119, "none", as, -13, "['] of one that isn't found"}, {119, "x", as, -13, "['] of a hidden one"}, {119, "dup", at(56), -8, "['], full for its second cell"}, {119, "dup", at(64), -8, "['], full"}, {119, "none", at(64), -13, "['] of one that isn't found, and full"}, {119, "", at(64), -16, "['] of no name, and full"}, {119, "dup", at(12), -23, "['], at no cell"}, {119, "dup", at(-8), -9, "['], below 0"}, {119, "dup", hasData(1, 2, 3, 4), 0, "['], that gives nothing"},
		{120, "", hasData(), -4, "LITERAL of no value"}, {120, "", both(hasData(), at(64)), -4, "LITERAL of no value, and full"}, {120, "", hasData(0), 0, "LITERAL of one value"}, {120, "", at(56), -8, "LITERAL, full for its second cell"}, {120, "", at(64), -8, "LITERAL, full"}, {120, "", at(12), -23, "LITERAL, at no cell"}, {120, "", at(-8), -9, "LITERAL, below 0"},
		{121, "", as, -16, "POSTPONE of no name"}, {121, n32, as, -19, "POSTPONE of 32 letters"}, {121, "none", as, -13, "POSTPONE of one that isn't found"}, {121, "x", as, -13, "POSTPONE of a hidden one"}, {121, "none", at(64), -13, "POSTPONE of one that isn't found, and full"},
		{121, "sq", at(56), 0, "POSTPONE of one done at once, where one cell is left"}, {121, "sq", at(64), -8, "POSTPONE of one done at once, full"}, {121, "dup", at(40), 0, "POSTPONE of another one, where three cells are left"}, {121, "dup", at(48), -8, "POSTPONE of another one, full for its last cell"}, {121, "dup", at(56), -8, "POSTPONE of another one, full for its second cell"}, {121, "dup", at(64), -8, "POSTPONE of another one, full"}, {121, "sq", at(12), -23, "POSTPONE, at no cell"}, {121, "sq", at(-8), -9, "POSTPONE, below 0"},
		{122, "", both(hasMany(0), at(64)), 0, "["}, {123, "", both(hasMany(256), at(-8)), 0, "]"},
		{125, "", as, -16, "CHAR of no name"}, {125, " \t", as, -16, "CHAR of blanks"}, {125, n32, as, 0, "CHAR of 32 letters"}, {125, n32, hasData(1, 2, 3), 0, "CHAR, the fourth value"}, {125, "a", hasData(1, 2, 3, 4), -3, "CHAR, the fifth value"}, {125, "", hasData(1, 2, 3, 4), -16, "CHAR of no name, the fifth value"}, {125, "a", hasData(1, 2, 3, 4, 5), -3, "CHAR, the sixth value"},
		{126, "", as, -16, "[CHAR] of no name"}, {126, n32, as, 0, "[CHAR] of 32 letters"}, {126, "", at(64), -16, "[CHAR] of no name, and full"}, {126, "a", at(56), -8, "[CHAR], full for its second cell"}, {126, "a", at(64), -8, "[CHAR], full"}, {126, "a", at(12), -23, "[CHAR], at no cell"}, {126, "a", at(-8), -9, "[CHAR], below 0"}, {126, "a", hasData(1, 2, 3, 4), 0, "[CHAR], that gives nothing"},
		{127, "", at(64), 0, "( of nothing"}, {127, "no end", at(-8), 0, "( without an end"}, {128, "", at(64), 0, "\\ of nothing"}, {128, "no end", at(-8), 0, "\\ without an end"},
		{129, " \"", at(48), 0, ".\" of no byte, where two cells are left"}, {129, " \"", at(56), -8, ".\" of no byte, full for its second cell"}, {129, " \"", at(64), -8, ".\" of no byte, full"}, {129, " a\"", at(40), 0, ".\" of one byte, where three cells are left"}, {129, " a\"", at(48), -8, ".\" of one byte, where two cells are left"},
		{129, " 12345678\"", at(40), 0, ".\" of eight bytes, where three cells are left"}, {129, " 12345678\"", at(48), -8, ".\" of eight bytes, where two cells are left"}, {129, " 123456789\"", at(40), -8, ".\" of nine bytes, where three cells are left"}, {129, " 123456789\"", at(32), 0, ".\" of nine bytes, where four cells are left"}, {129, " 123456789\"", at(56), -8, ".\" of nine bytes, full for its second cell"},
		{129, " a\"", at(12), -23, ".\", at no cell"}, {129, " a\"", at(-8), -9, ".\", below 0"}, {129, " a\"", at(least), -9, ".\", at the least integer"}, {129, " a\"", at(greatest), -8, ".\", at the greatest integer"}, {129, " a\"", func(_ *api.State, x *api.Setup) { x.Room = 0 }, 0, ".\", compiled, without any room"},
		{129, " 12345\"", says(8), 0, ".\" of five bytes behind three"}, {129, " 123456\"", says(8), -57, ".\" of six bytes behind three"}, {129, " 12345", says(7), -57, ".\" of five bytes behind three, and room for seven"}, {129, " \"", says(3), 0, ".\" of no byte behind three"}, {129, " \"", says(2), -57, ".\" of no byte, where there are too many"}, {129, " \"", says(-1), -57, ".\" of no byte, with room below 0"},
		{129, " a\"", both(says(8), at(64)), 0, ".\", said, and full"}, {129, " 123456\"", both(says(8), at(12)), -57, ".\", said, too much, at no cell"},
	} {
		s, x := full(64, 32, 0), setup(c.source)
		c.is(&s, &x)
		told, thrown, is := defs.Do(s, x, c.op)
		if thrown != c.thrown || !is || thrown != 0 && !same(told, api.State{}) || thrown == 0 && len(told.Ret) != 2 {
			t.Errorf("%s: %+v, %d, %v", c.what, told, thrown, is)
		}
	}
}

// TestChar has the first byte of names of all bytes that aren't blanks, and of lengths up to 40 (P12.2).
func TestChar(t *testing.T) {
	for c := 33; c < 256; c++ {
		for many := 1; many < 41; many++ {
			source := " " + string([]byte{byte(c)}) + strings.Repeat("n", many-1) + " x"
			given, _, _ := defs.Do(full(64, 32, 0), setup(source), 125)
			if want := []int{5, -6, c}; !slices.Equal(given.Data, want) || given.At != 1+many {
				t.Fatalf("CHAR %q: %v, %d", source, given.Data, given.At)
			}
			emitted, _, _ := defs.Do(full(64, 32, 0), setup(source), 126)
			if !slices.Equal(emitted.Mem, cells(filled(64), 32, 2, c)) || emitted.At != 1+many || len(emitted.Data) != 2 {
				t.Fatalf("[CHAR] %q: %v, %d", source, emitted.Mem, emitted.At)
			}
		}
	}
}

// TestText has texts of 0 to 17 bytes, in memory that has just as many bytes as they ask for: their bytes one by one, those up to the next cell as they were, and where the next thing is laid (P12.2).
func TestText(t *testing.T) {
	for many, rest := range []int{0, 8, 8, 8, 8, 8, 8, 8, 8, 16, 16, 16, 16, 16, 16, 16, 16, 24} {
		text := strings.Repeat("\x00\xFFa", 6)[:many]
		length := 48 + rest
		told, thrown, _ := defs.Do(full(length, 32, 0), setup(" "+text+"\" x"), 129)
		want := append(cells(filled(length), 32, 10, many)[:48:48], text...)
		want = append(want, filled(length)[48+many:]...)
		if thrown != 0 || !slices.Equal(told.Mem, want) || told.Here != length || told.At != many+2 || string(told.Out) != "25 " {
			t.Errorf("%d bytes: %d, %+v, not %v", many, thrown, told, want)
		}
		if want := []api.Spot{{Addr: 0, At: 1}, {Addr: 32, At: 9}, {Addr: 40, At: 9}}; !slices.Equal(told.Spots, want) {
			t.Errorf("%d bytes: %v", many, told.Spots)
		}
		if told, thrown, _ := defs.Do(full(length-1, 32, 0), setup(" "+text+"\" x"), 129); thrown != -8 || !same(told, api.State{}) {
			t.Errorf("%d bytes, one too few: %+v, %d", many, told, thrown)
		}
	}
}
