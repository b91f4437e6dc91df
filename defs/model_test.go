package defs_test

import (
	"slices"
	"strings"
	"testing"

	"nostos/api"
	"nostos/defs"
)

// code is what the model throws.
type code int

// model does a word as the chapter's table tells it, on a state whose lists are its own.
type model struct {
	api.State
	x api.Setup
}

// must throws where something isn't so.
func (m *model) must(so bool, thrown int) {
	if !so {
		panic(code(thrown))
	}
}

// place is a place of the source, bounded.
func (m *model) place() int {
	switch {
	case m.At < 0:
		return 0
	case m.At > len(m.x.Source):
		return len(m.x.Source)
	}
	return m.At
}

// word reads a word of the source.
func (m *model) word() string {
	begin := m.place()
	for begin < len(m.x.Source) && m.x.Source[begin] <= 32 {
		begin++
	}
	m.At = begin
	for m.At < len(m.x.Source) && m.x.Source[m.At] > 32 {
		m.At++
	}
	return m.x.Source[begin:m.At]
}

// name reads a word that may be a name.
func (m *model) name() string {
	name := m.word()
	m.must(len(name) > 0, -16)
	m.must(len(name) <= 31, -19)
	return name
}

// upto reads what stands ahead of a byte.
func (m *model) upto(c string) string {
	begin := m.place()
	if begin < len(m.x.Source) && m.x.Source[begin] <= 32 {
		begin++
	}
	text, _, is := strings.Cut(m.x.Source[begin:], c)
	m.At = begin + len(text)
	if is {
		m.At++
	}
	return text
}

// capitals is a text with capital letters in place of a to z.
func capitals(s string) string {
	var l []byte
	for n := range len(s) {
		if at := strings.IndexByte("abcdefghijklmnopqrstuvwxyz", s[n]); at >= 0 {
			l = append(l, "ABCDEFGHIJKLMNOPQRSTUVWXYZ"[at])
		} else {
			l = append(l, s[n])
		}
	}
	return string(l)
}

// found is what stands for a name, and whether that is done at once.
func (m *model) found(name string) (int, bool) {
	v, now, is := 0, false, false
	for n, one := range fromTheBegin() {
		if one == capitals(name) && (n+1 < innerFirst || n+1 > innerLast) {
			v, now, is = n+1, strings.Contains(atOnce, " "+decimal(n+1)+" "), true
		}
	}
	for _, w := range m.Words {
		if !w.Hid && capitals(w.Name) == capitals(name) {
			v, now, is = w.Code, w.Now, true
		}
	}
	m.must(is, -13)
	return v, now
}

// up lets an address come to a cell's.
func up(at int) int {
	for at&7 != 0 {
		at++
	}
	return at
}

// cell lays a cell.
func (m *model) cell(v int) {
	m.must(m.Here <= len(m.Mem)-8, -8)
	m.must(m.Here >= 0, -9)
	m.must(m.Here&7 == 0, -23)
	m.Mem = cells(m.Mem, m.Here, v)
	m.Here += 8
}

// emits lays code.
func (m *model) emits(v ...int) {
	for _, one := range v {
		at := m.Here
		m.cell(one)
		m.Spots = slices.DeleteFunc(slices.Clone(m.Spots), func(spot api.Spot) bool { return spot.Addr >= at })
		m.Spots = append(m.Spots, api.Spot{Addr: at, At: m.Tok})
	}
}

// makes lets a word come.
func (m *model) makes(name string, hid bool) {
	m.Here = up(m.Here)
	m.must(len(m.Words) < 256, -8)
	m.Words = append(slices.Clone(m.Words), api.Word{Name: capitals(name), Code: m.Here, Hid: hid})
}

// takes takes a value.
func (m *model) takes() int {
	top := len(m.Data) - 1
	m.must(top >= 0, -4)
	v := m.Data[top]
	m.Data = m.Data[:top]
	return v
}

// gives gives a value.
func (m *model) gives(v int) {
	m.must(len(m.Data) < m.x.Depth, -3)
	m.Data = append(slices.Clone(m.Data), v)
}

// made is the last word, in a list of the model's own.
func (m *model) made() *api.Word {
	m.Words = slices.Clone(m.Words)
	return &m.Words[len(m.Words)-1]
}

// reads does the words that lay nothing for a word that is made.
func (m *model) reads(op int) {
	switch op {
	case 118:
		v, _ := m.found(m.name())
		m.gives(v)
	case 119:
		v, _ := m.found(m.name())
		m.emits(2, v)
	case 120:
		m.emits(2, m.takes())
	case 121:
		if v, now := m.found(m.name()); now {
			m.emits(v)
		} else {
			m.emits(2, v, 12)
		}
	case 122, 123:
		m.Comp = op == 123
	case 125, 126:
		name := m.word()
		m.must(name != "", -16)
		if op == 125 {
			m.gives(int(name[0]))
		} else {
			m.emits(2, int(name[0]))
		}
	case 127:
		m.upto(")")
	case 128:
		m.At = m.place()
		for m.At < len(m.x.Source) && m.x.Source[m.At] != 10 {
			m.At++
		}
		m.At = min(m.At+1, len(m.x.Source))
	case 129:
		m.quotes(m.upto("\""))
	}
}

// quotes does what ." does with its text.
func (m *model) quotes(text string) {
	if !m.Comp {
		m.must(len(m.Out)+len(text) <= m.x.Room, -57)
		m.Out = []byte(string(m.Out) + text)
		return
	}
	m.emits(10, len(text))
	m.must(m.Here+up(len(text)) <= len(m.Mem), -8)
	m.Mem = slices.Clone(m.Mem)
	for n := range len(text) {
		m.Mem[m.Here+n] = text[n]
	}
	m.Here += up(len(text))
}

// does does a word.
func (m *model) does(op int) {
	switch op {
	case 110:
		m.makes(m.name(), true)
		m.Comp = true
	case 111:
		m.must(len(m.Ctl) == 0, -22)
		m.must(len(m.Words) > 0, -22)
		m.must(m.Words[len(m.Words)-1].Hid, -22)
		m.emits(1)
		m.made().Hid = false
		m.Comp = false
	case 112:
		m.must(len(m.Words) > 0, -13)
		m.made().Now = true
	case 113:
		n := m.takes()
		m.makes(m.name(), false)
		m.emits(2, n, 1)
	case 114:
		m.makes(m.name(), false)
		m.emits(8, 0)
		m.cell(0)
	case 115:
		m.makes(m.name(), false)
		m.emits(8, 0)
	case 116:
		m.emits(9)
	case 117:
		many := len(m.Words)
		m.makes(m.name(), false)
		m.emits(11, many)
	default:
		m.reads(op)
	}
}

// meant is what Do is to tell of a word of the table.
func meant(s api.State, x api.Setup, op int) (told api.State, thrown int) {
	defer func() {
		switch c := recover().(type) {
		case nil:
		case code:
			told, thrown = api.State{}, int(c)
		default:
			panic(c)
		}
	}()
	m := model{s, x}
	m.does(op)
	return m.State, 0
}

// check holds what Do tells against what is meant, and what was handed in against the same made once more.
func check(t *testing.T, made func() api.State, x api.Setup, op int) {
	t.Helper()
	want, code := meant(made(), x, op)
	s := made()
	told, thrown, is := defs.Do(s, x, op)
	if !same(told, want) || thrown != code || !is {
		t.Fatalf("%d of %+v, %+v: %+v, %d, %v, not %+v, %d", op, s, x, told, thrown, is, want, code)
	}
	if !sameRoom(s, made()) {
		t.Fatalf("%d of %+v: handed in, it is %+v now, not %+v", op, x, s, made())
	}
}

// sources have names, or none, blanks of all kinds, and what ends notes and texts, or doesn't.
func sources() []string {
	return []string{
		"", " ", "\n", " \t\r\n\x00 ", "x", " x", "x ", "  sq  dup ", "SQ", "sQ\n", "dup x", "if", "If then", "(lit)", "exit ;", "unknown", "\x80\xFF", "\x00\x80 \xFFdup",
		" a note) dup", ")", " )x", "))", " ( a ) b ) c", " no end", " a text\" dup", "\"", " \"x", "\n\"x\"y\"", " line one\n line two\nthree", "\n\n", " a)\n b\"c\nd)",
		strings.Repeat("n", 31), " " + strings.Repeat("o", 31) + " x", strings.Repeat("n", 32), " " + strings.Repeat("o", 32) + " x", strings.Repeat("q", 300),
		"é à", "X x", "1 2",
	}
}

// TestSources has all those sources, from all places in and around them on, compiled and not (P12.2).
func TestSources(t *testing.T) {
	for _, source := range sources() {
		ats := []int{least, least + 1, -1 << 32, 1 << 32, greatest - 1, greatest}
		for at := -3; at < min(len(source), 40)+4; at++ {
			ats = append(ats, at)
		}
		for _, at := range ats {
			for _, op := range numbers {
				for _, comp := range []bool{false, true} {
					made := func() api.State {
						s := full(128, 64, at)
						s.Comp = comp
						return s
					}
					check(t, made, setup(source), op)
				}
			}
		}
	}
}

// around are addresses in and around some bytes, and those at the ends of all cells.
func around(many int) []int {
	l := []int{
		least, least + 1, least + 7, least + 8, least + 16, -1 << 32, 1 << 32, 1<<32 + 8,
		greatest - 24, greatest - 16, greatest - 15, greatest - 8, greatest - 7, greatest - 6, greatest - 1, greatest,
	}
	for at := -17; at < many+18; at++ {
		l = append(l, at)
	}
	return l
}

// TestPlaces has all Heres in and around memories that end before, within and behind a cell, with a control stack that is empty, and one that isn't (P12.2).
func TestPlaces(t *testing.T) {
	for _, many := range []int{0, 7, 8, 15, 16, 17, 24, 31, 32, 40, 47, 48} {
		for _, here := range around(many) {
			for _, op := range numbers {
				for _, source := range []string{" dup", " sq x", " abcdefgh\"", " abcdefghi", ""} {
					made := func() api.State { return full(many, here, 0) }
					check(t, made, setup(source), op)
				}
				made := func() api.State {
					s := full(many, here, 0)
					s.Ctl = s.Ctl[:0]
					return s
				}
				check(t, made, setup("x"), op)
			}
		}
	}
}

// TestStacks has data stacks of up to six values, and depths around them, below 0, and at the ends of all integers (P12.2).
func TestStacks(t *testing.T) {
	for many := range 7 {
		for _, depth := range []int{least, -1, 0, 1, 2, 3, 4, 5, 6, 7, 8, 256, greatest} {
			for _, op := range numbers {
				for _, source := range []string{"", " dup", " sq", " none", " " + strings.Repeat("n", 32)} {
					made := func() api.State {
						s := full(64, 32, 0)
						s.Data = roomy(-71, []int{11, -12, least, greatest, 0, 16}[:many]...)
						return s
					}
					x := setup(source)
					x.Depth = depth
					check(t, made, x, op)
				}
			}
		}
	}
}

// TestWords has words of all kinds, up to three of them, and as many as there may be, one fewer, and control stacks with something and without (P12.2).
func TestWords(t *testing.T) {
	var lists [][]api.Word
	kinds := []api.Word{{Name: "X", Code: 256}, {Name: "x", Code: 264, Now: true}, {Name: "X", Code: 272, Hid: true}, {Name: "Dup", Code: 280, Now: true, Hid: true}, {Name: "DUP", Code: -7}}
	lists = append(lists, nil, []api.Word{})
	for from := 0; len(lists[from]) < 3; from++ {
		for _, kind := range kinds {
			lists = append(lists, append(slices.Clone(lists[from]), kind))
		}
	}
	for _, many := range []int{253, 254, 255, 256} {
		for _, kind := range kinds {
			l := make([]api.Word, many)
			for n := range l {
				l[n] = api.Word{Name: "W" + decimal(n), Code: 256 + n}
			}
			l[many-1] = kind
			lists = append(lists, l)
		}
	}
	for _, l := range lists {
		for _, ctl := range [][]int{nil, {}, {7}, {1, 40}} {
			for _, op := range numbers {
				for _, source := range []string{" x", " dUP", " W9", ""} {
					for _, here := range []int{32, 29, 56} {
						made := func() api.State {
							s := full(64, here, 0)
							s.Words, s.Ctl = roomy(api.Word{Name: "X", Code: -74}, l...), roomy(-73, ctl...)
							return s
						}
						check(t, made, setup(source), op)
					}
				}
			}
		}
	}
}

// TestTexts has texts of up to 26 bytes, ended and not, in memories that have enough bytes for them and too few, and rooms that are enough and too small (P12.2).
func TestTexts(t *testing.T) {
	for many := range 27 {
		text := "abcdefghijklmnopqrstuvwxyz"[:many]
		for _, source := range []string{".\" " + text + "\" x", ".\" " + text, ".\"\x00" + text + "\"", ".\" \xFF" + text + "\n\""} {
			for length := 16; length <= 88; length++ {
				for _, here := range []int{24, 32} {
					check(t, func() api.State { return full(length, here, 2) }, setup(source), 129)
				}
			}
			for room := -1; room < 35; room++ {
				for _, out := range []string{"", "25 "} {
					made := func() api.State {
						s := full(64, 32, 2)
						s.Comp = false
						s.Out = roomy(byte('x'), []byte(out)...)
						return s
					}
					x := setup(source)
					x.Room = room
					check(t, made, x, 129)
				}
			}
		}
	}
}

// TestSpots has spots ahead of what is laid, within it and behind it, in any order, and tokens' places of all kinds (P12.2).
func TestSpots(t *testing.T) {
	addrs := []int{least, -8, 0, 24, 31, 32, 33, 40, 48, 56, 64, greatest}
	for n := range addrs {
		for _, tok := range []int{least, -1, 0, 9, greatest} {
			for _, op := range numbers {
				for _, here := range []int{32, 31, 40} {
					made := func() api.State {
						s := full(80, here, 1)
						s.Tok = tok
						s.Spots = nil
						for i := range addrs {
							s.Spots = append(s.Spots, api.Spot{Addr: addrs[(n+5*i)%len(addrs)], At: i})
						}
						s.Spots = roomy(api.Spot{Addr: -75}, s.Spots...)
						return s
					}
					check(t, made, setup("  dup\" )"), op)
				}
			}
		}
	}
}
