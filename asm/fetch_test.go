package asm_test

import (
	"encoding/binary"
	"math/big"
	"slices"
	"testing"

	"nostos/api"
	"nostos/asm"
	"nostos/ops"
)

// wide are the words to which a cell belongs, by the chapter ops; the text word is 10.
var wide = []int{2, 3, 4, 5, 6, 7, 8, 10, 11}

// fetched is what Fetch tells.
type fetched struct{ word, with, next, thrown int }

// fetch is what Fetch tells, as one.
func fetch(mem []byte, at int) fetched {
	word, with, next, thrown := asm.Fetch(mem, at)
	return fetched{word, with, next, thrown}
}

// meant is what Fetch is to tell, by whole numbers.
func meant(mem []byte, at int) fetched {
	if code := thrownOfCell(len(mem), at); code != 0 {
		return fetched{thrown: code}
	}
	word := int(binary.LittleEndian.Uint64(mem[at:]))
	if !slices.Contains(wide, word) {
		return fetched{word, 0, at + 8, 0}
	}
	if code := thrownOfCell(len(mem), at+8); code != 0 {
		return fetched{thrown: code}
	}
	cell := int(binary.LittleEndian.Uint64(mem[at+8:]))
	if word != 10 {
		return fetched{word, cell, at + 16, 0}
	}
	end := number(cell)
	for new(big.Int).And(end, big.NewInt(7)).Sign() != 0 {
		end.Add(end, big.NewInt(1))
	}
	if cell < 0 || end.Cmp(number(len(mem)-at-16)) > 0 {
		return fetched{thrown: api.Address}
	}
	return fetched{word, cell, at + 16 + int(end.Int64()), 0}
}

// cells is memory of some cells, and so many bytes more.
func cells(more int, v ...int) []byte {
	mem := filled(8*len(v) + more)
	for n, one := range v {
		mem = with(mem, 8*n, one)
	}
	return mem
}

// P10.2
func TestFetch(t *testing.T) {
	for _, c := range []struct {
		mem  []byte
		at   int
		want fetched
		what string
	}{
		{cells(0, 13, 1), 0, fetched{13, 0, 8, 0}, "DUP"},
		{cells(0, 13, 1), 8, fetched{1, 0, 16, 0}, "EXIT, at the end"},
		{cells(0, 2, -5), 0, fetched{2, -5, 16, 0}, "(LIT), and its cell at the end"},
		{cells(0, 9, 1), 0, fetched{9, 0, 8, 0}, "(DOES), that has no cell"},
		{cells(0, 11, 3, 1), 0, fetched{11, 3, 16, 0}, "(MARK)"},
		{cells(0, 2, 10, 1), 8, fetched{0, 0, 0, -9}, "a cell that isn't a text's, read as one: its end is none"},
		{cells(0, 264), 0, fetched{264, 0, 8, 0}, "an address, that is no word"},
		{cells(0, 0), 0, fetched{0, 0, 8, 0}, "0, that is no word"},
		{cells(0, -2), 0, fetched{-2, 0, 8, 0}, "below 0"},
		{cells(0, 138), 0, fetched{138, 0, 8, 0}, "one above the last word"},
		{cells(0, least), 0, fetched{least, 0, 8, 0}, "the least integer"},
		{cells(0, greatest), 0, fetched{greatest, 0, 8, 0}, "the greatest integer"},
		{cells(0, 258), 0, fetched{258, 0, 8, 0}, "(LIT), and 256 more"},
		{cells(0, 13), 8, fetched{0, 0, 0, -9}, "at the end"},
		{cells(0, 13), 16, fetched{0, 0, 0, -9}, "behind the end"},
		{cells(7, 13), 8, fetched{0, 0, 0, -9}, "a word that is cut"},
		{cells(0, 2), 0, fetched{0, 0, 0, -9}, "(LIT), and no cell"},
		{cells(7, 2), 0, fetched{0, 0, 0, -9}, "(LIT), and a cell that is cut"},
		{cells(0, 10), 0, fetched{0, 0, 0, -9}, "the text word, and no cell"},
		{cells(7, 10), 0, fetched{0, 0, 0, -9}, "the text word, and a cell that is cut"},
		{cells(0, 2, 5), 1, fetched{0, 0, 0, -23}, "no multiple of 8"},
		{cells(0, 2, 5), 9, fetched{0, 0, 0, -9}, "no multiple of 8, and beyond: Address is named first"},
		{cells(0, 2, 5), -8, fetched{0, 0, 0, -9}, "below 0"},
		{cells(0, 2, 5), -1, fetched{0, 0, 0, -9}, "below 0, and no multiple of 8"},
		{cells(0, 2, 5), least, fetched{0, 0, 0, -9}, "at the least integer"},
		{cells(0, 2, 5), greatest, fetched{0, 0, 0, -9}, "at the greatest integer"},
		{cells(0, 2, 5), greatest - 7, fetched{0, 0, 0, -9}, "at the greatest multiple of 8"},
		{nil, 0, fetched{0, 0, 0, -9}, "nil"},
		{[]byte{}, 0, fetched{0, 0, 0, -9}, "empty"},
	} {
		if told := fetch(c.mem, c.at); told != c.want {
			t.Errorf("%s: %+v, not %+v", c.what, told, c.want)
		}
	}
}

// TestFetchText has texts of some bytes, where there are so many, and fewer (P10.2).
func TestFetchText(t *testing.T) {
	for _, c := range []struct {
		more, many, next, thrown int
		what                     string
	}{
		{0, 0, 16, 0, "no byte, at the end"}, {16, 0, 16, 0, "no byte"}, {5, 0, 16, 0, "no byte, ahead of five"},
		{16, 1, 24, 0, "one"}, {16, 7, 24, 0, "seven"}, {16, 8, 24, 0, "eight"}, {16, 9, 32, 0, "nine"}, {16, 15, 32, 0, "fifteen"},
		{8, 1, 24, 0, "one, of eight"}, {8, 7, 24, 0, "seven, of eight"}, {8, 8, 24, 0, "just as many as there are"}, {16, 16, 32, 0, "just as many as there are, two cells"},
		{8, 9, 0, -9, "one more than there are"}, {16, 17, 0, -9, "one more than there are, of two cells"}, {0, 1, 0, -9, "one, of none"},
		{7, 7, 0, -9, "as many as there are, that don't reach a multiple of 8"}, {1, 1, 0, -9, "one, that doesn't reach a multiple of 8"}, {15, 9, 0, -9, "nine, of fifteen"}, {15, 8, 24, 0, "eight, of fifteen"},
		{16, -1, 0, -9, "fewer than none"}, {16, -7, 0, -9, "seven fewer than none: Up of it is 0"}, {16, -8, 0, -9, "eight fewer than none"}, {16, -16, 0, -9, "back to the word"}, {16, least, 0, -9, "the least integer"},
		{16, greatest, 0, -9, "the greatest integer: Up of it goes round"}, {16, greatest - 6, 0, -9, "the least one that goes round"}, {16, greatest - 7, 0, -9, "the greatest one that doesn't"}, {0, greatest, 0, -9, "the greatest integer, of none"},
		{16, 1 << 32, 0, -9, "2^32"}, {16, 1 << 31, 0, -9, "2^31"},
	} {
		want := fetched{10, c.many, c.next, 0}
		if c.thrown != 0 {
			want = fetched{thrown: c.thrown}
		}
		if told := fetch(cells(c.more, 10, c.many), 0); told != want {
			t.Errorf("%s: %+v, not %+v", c.what, told, want)
		}
		if want.thrown == 0 {
			want.next += 24
		}
		if told := fetch(cells(c.more, 13, 2, 5, 10, c.many), 24); told != want {
			t.Errorf("%s, further on: %+v, not %+v", c.what, told, want)
		}
	}
}

// TestFetchAll has all kinds of words, with all kinds of cells, at all addresses in and around memories that end before, within and behind them (P10.2).
func TestFetchAll(t *testing.T) {
	words := []int{least, least + 2, least + 10, -138, -10, -2, 0, 255, 256, 258, 266, 1<<32 + 2, 1<<32 + 10, greatest}
	for word := 1; word <= 140; word++ {
		words = append(words, word)
	}
	counts := []int{least, least + 1, -9, -8, -7, -1, 0, 1, 2, 7, 8, 9, 13, 15, 16, 17, 24, 25, 1 << 32, greatest - 16, greatest - 7, greatest - 6, greatest}
	for _, word := range words {
		for _, count := range counts {
			for more := -16; more <= 24; more++ {
				mem := cells(24, word, count)[:16+more]
				for _, at := range []int{-16, -8, -1, 0, 1, 4, 8, 16, 24, 32, 40, least, least + 8, greatest - 15, greatest - 7, greatest} {
					if told, want := fetch(mem, at), meant(mem, at); told != want {
						t.Fatalf("%d and %d, at %d of %d bytes: %+v, not %+v", word, count, at, len(mem), told, want)
					}
				}
			}
		}
	}
}

// TestFetchAddresses has all addresses in and around code of up to 48 bytes (P10.2).
func TestFetchAddresses(t *testing.T) {
	for _, code := range [][]int{{2, 10, 3, 2, 10, 0}, {10, 16, 10, 8, 10, 10}, {13, 2, 2, 10, 2, 1}, {0, 0, 0, 0, 0, 0}} {
		for many := range 49 {
			mem := cells(0, code...)[:many]
			for _, at := range addresses(many) {
				if told, want := fetch(mem, at), meant(mem, at); told != want {
					t.Errorf("%v, %d bytes of it, at %d: %+v, not %+v", code, many, at, told, want)
				}
			}
		}
	}
}

// laid is one word as it is laid: itself, the cell that belongs to it, if there is one, and a text behind that.
type laid struct {
	word, cell int
	text       string
}

// lay emits a word, and lays its text behind it, filled up with noughts.
func (l laid) lay(t *testing.T, s api.State) api.State {
	v := []int{l.word}
	if ops.Wide(l.word) {
		v = append(v, l.cell)
	}
	s, thrown := asm.Emit(s, v...)
	if thrown != 0 {
		t.Fatalf("%+v: %d", l, thrown)
	}
	for text := []byte(l.text); len(text) > 0; text = text[min(8, len(text)):] {
		var eight [8]byte
		copy(eight[:], text)
		if s, thrown = asm.Comma(s, int(binary.LittleEndian.Uint64(eight[:]))); thrown != 0 {
			t.Fatalf("%+v: %d", l, thrown)
		}
	}
	return s
}

// checkRun lays some words one behind the other, and fetches them, up to where the next one would be laid (P10.3).
func checkRun(t *testing.T, run []laid) {
	s := api.State{Mem: filled(16384), Here: 256, Tok: 5}
	for _, l := range run {
		s = l.lay(t, s)
	}
	at := 256
	for n, l := range run {
		word, with, next, thrown := asm.Fetch(s.Mem, at)
		if word != l.word || with != l.cell || thrown != 0 {
			t.Fatalf("%+v: the word %d of them: %d, %d, %d", run, n, word, with, thrown)
		}
		if end := at + 8; !ops.Wide(l.word) && next != end {
			t.Fatalf("%+v: the word %d of them ends at %d, not %d", run, n, next, end)
		}
		if l.text != "" && string(s.Mem[at+16:at+16+len(l.text)]) != l.text {
			t.Fatalf("%+v: the word %d of them has another text", run, n)
		}
		at = next
	}
	if at != s.Here {
		t.Fatalf("%+v: it ends at %d, not %d", run, at, s.Here)
	}
}

// anyWords are all words, and addresses, that stand for words that were made; the wide ones with several cells, the text word with several texts.
func anyWords() []laid {
	var all []laid
	for word := 1; word <= 137; word++ {
		switch {
		case word == 10:
			for _, text := range []string{"", "a", "seven b", "8 bytes.", "nine byte", "\x02\x00\x00\x00\x00\x00\x00\x00\x0a"} {
				all = append(all, laid{10, len(text), text})
			}
		case slices.Contains(wide, word):
			for _, cell := range []int{0, -1, 10, least, greatest} {
				all = append(all, laid{word, cell, ""})
			}
		default:
			all = append(all, laid{word, 0, ""})
		}
	}
	return append(all, laid{256, 0, ""}, laid{65528, 0, ""})
}

// TestEmittedIsFetched has all words in a row, and each two of them side by side (P10.3).
func TestEmittedIsFetched(t *testing.T) {
	all := anyWords()
	checkRun(t, all)
	backwards := slices.Clone(all)
	slices.Reverse(backwards)
	checkRun(t, backwards)
	checkRun(t, nil)
	var pairs []laid
	for _, first := range all {
		for _, second := range all {
			if pairs = append(pairs, first, second); len(pairs) > 400 {
				checkRun(t, pairs)
				pairs = nil
			}
		}
	}
	checkRun(t, pairs)
}
