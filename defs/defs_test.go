package defs_test

import (
	"bytes"
	"encoding/binary"
	"math"
	"slices"
	"testing"

	"nostos/api"
	"nostos/defs"
)

const (
	least    = math.MinInt
	greatest = math.MaxInt
)

// numbers are those of the table's words, in its order.
var numbers = []int{110, 111, 112, 113, 114, 115, 116, 117, 118, 119, 120, 121, 122, 123, 125, 126, 127, 128, 129}

// filled are so many bytes, none of which is 0, and those next to one another differ, in room that goes on behind them.
func filled(many int) []byte {
	room := make([]byte, many+24)
	for at := range room {
		room[at] = byte(1 + at%250)
	}
	return room[:many]
}

// roomy is a list with room behind its end, where something stands.
func roomy[T any](behind T, l ...T) []T {
	room := make([]T, len(l)+6)
	for n := copy(room, l); n < len(room); n++ {
		room[n] = behind
	}
	return room[:len(l)]
}

// full is a state of such memory, none of whose fields is zero, with room behind all its lists.
func full(many, here, at int) api.State {
	return api.State{
		Mem:   filled(many),
		Data:  roomy(-71, 5, -6),
		Ret:   roomy(api.Slot{V: -72}, api.Slot{V: 264, Call: true}, api.Slot{V: 7}),
		Ctl:   roomy(-73, 1, 40),
		Words: roomy(api.Word{Name: "BEHIND", Code: -74, Hid: true}, api.Word{Name: "SQ", Code: 256, Now: true}, api.Word{Name: "DUP", Code: 272}, api.Word{Name: "X", Code: 280, Hid: true}),
		Spots: roomy(api.Spot{Addr: -75, At: -75}, api.Spot{Addr: 0, At: 1}, api.Spot{Addr: 32, At: 2}, api.Spot{Addr: 40, At: 3}),
		Out:   roomy(byte('x'), '2', '5', ' '),
		Ip:    256, Here: here, At: at, Tok: 9, In: 2, Err: -13, Comp: true, Halt: true,
	}
}

// setup is a source, with room for four values, and for eight bytes.
func setup(source string) api.Setup {
	return api.Setup{Source: source, Input: []byte("in"), Size: 64, Depth: 4, Room: 8}
}

// whole is a list with the room behind its end.
func whole[T any](l []T) []T {
	return l[:cap(l)]
}

// same tells whether two states are the same.
func same(a, b api.State) bool {
	return bytes.Equal(a.Mem, b.Mem) && slices.Equal(a.Data, b.Data) && slices.Equal(a.Ret, b.Ret) && slices.Equal(a.Ctl, b.Ctl) &&
		slices.Equal(a.Words, b.Words) && slices.Equal(a.Spots, b.Spots) && bytes.Equal(a.Out, b.Out) &&
		a.Ip == b.Ip && a.Here == b.Here && a.At == b.At && a.Tok == b.Tok && a.In == b.In && a.Err == b.Err && a.Comp == b.Comp && a.Halt == b.Halt
}

// sameRoom tells whether two states are the same, with what lies behind the ends of their lists.
func sameRoom(a, b api.State) bool {
	return same(a, b) && bytes.Equal(whole(a.Mem), whole(b.Mem)) && slices.Equal(whole(a.Data), whole(b.Data)) &&
		slices.Equal(whole(a.Ret), whole(b.Ret)) && slices.Equal(whole(a.Ctl), whole(b.Ctl)) && slices.Equal(whole(a.Words), whole(b.Words)) &&
		slices.Equal(whole(a.Spots), whole(b.Spots)) && bytes.Equal(whole(a.Out), whole(b.Out))
}

// cells sets cells of memory, from an address on.
func cells(mem []byte, at int, v ...int) []byte {
	told := bytes.Clone(mem)
	for n, one := range v {
		binary.LittleEndian.PutUint64(told[at+8*n:], uint64(one))
	}
	return told
}

// laid sets code from 32 on, with its spots, and where the next thing is laid.
func laid(s *api.State, v ...int) {
	s.Mem = cells(s.Mem, 32, v...)
	s.Here = 32 + 8*len(v)
	s.Spots = s.Spots[:1]
	for n := range v {
		s.Spots = append(slices.Clone(s.Spots), api.Spot{Addr: 32 + 8*n, At: 9})
	}
}

// comes sets one more word.
func comes(s *api.State, name string, code int, hid bool) {
	s.Words = append(slices.Clone(s.Words), api.Word{Name: name, Code: code, Hid: hid})
}

// asIs leaves a state as it is.
func asIs(*api.State) {}

// TestTable has each word of the table by its number and its results written out: memory of eight cells, Here 32 (P12.2).
func TestTable(t *testing.T) {
	for _, c := range []struct {
		name   string
		op     int
		source string
		at, to int
		ahead  func(s *api.State) // what is otherwise than in a full state
		then   func(s *api.State) // what is done to it, but At
	}{
		{":", 110, ": sq* DUP", 1, 5, func(s *api.State) { s.Comp = false }, func(s *api.State) { comes(s, "SQ*", 32, true); s.Comp = true }},
		{": of no cell's address", 110, ": sq* DUP", 1, 5, func(s *api.State) { s.Here = 30 }, func(s *api.State) { s.Here = 32; comes(s, "SQ*", 32, true) }},
		{";", 111, "; x", 1, 1, func(s *api.State) { s.Ctl = nil }, func(s *api.State) { laid(s, 1); s.Words[2].Hid, s.Comp = false, false }},
		{"IMMEDIATE", 112, "immediate x", 9, 9, asIs, func(s *api.State) { s.Words[2].Now = true }},
		{"CONSTANT", 113, "constant  five\n", 8, 14, asIs, func(s *api.State) { s.Data = s.Data[:1]; comes(s, "FIVE", 32, false); laid(s, 2, -6, 1) }},
		{"VARIABLE", 114, "v", 0, 1, asIs, func(s *api.State) {
			comes(s, "V", 32, false)
			laid(s, 8, 0)
			s.Mem, s.Here = cells(s.Mem, 48, 0), 56
		}},
		{"CREATE", 115, "a c b", 1, 3, asIs, func(s *api.State) { comes(s, "C", 32, false); laid(s, 8, 0) }},
		{"DOES>", 116, "a b", 1, 1, asIs, func(s *api.State) { laid(s, 9) }},
		{"MARKER", 117, "Gone", 0, 4, asIs, func(s *api.State) { comes(s, "GONE", 32, false); laid(s, 11, 3) }},
		{"'", 118, "' dup x", 1, 5, asIs, func(s *api.State) { s.Data = []int{5, -6, 272} }},
		{"' of a word from the begin", 118, "' +! x", 1, 4, asIs, func(s *api.State) { s.Data = []int{5, -6, 80} }},
		{"[']", 119, "['] Sq x", 3, 6, asIs, func(s *api.State) { laid(s, 2, 256) }},
		{"LITERAL", 120, "a b", 1, 1, asIs, func(s *api.State) { s.Data = s.Data[:1]; laid(s, 2, -6) }},
		{"POSTPONE of one done at once", 121, "sq", 0, 2, asIs, func(s *api.State) { laid(s, 256) }},
		{"POSTPONE of another one", 121, "dup", 0, 3, asIs, func(s *api.State) { laid(s, 2, 272, 12) }},
		{"POSTPONE of IF", 121, "if", 0, 2, asIs, func(s *api.State) { laid(s, 98) }},
		{"POSTPONE of EXIT", 121, "exit", 0, 4, asIs, func(s *api.State) { laid(s, 2, 1, 12) }},
		{"[", 122, "[ x", 1, 1, asIs, func(s *api.State) { s.Comp = false }},
		{"]", 123, "] x", 1, 1, func(s *api.State) { s.Comp = false }, func(s *api.State) { s.Comp = true }},
		{"CHAR", 125, "char abc x", 4, 8, asIs, func(s *api.State) { s.Data = []int{5, -6, 97} }},
		{"[CHAR]", 126, "[char] \xFFbc x", 6, 10, asIs, func(s *api.State) { laid(s, 2, 255) }},
		{"(", 127, "( a b) c", 1, 6, asIs, asIs},
		{"\\", 128, "\\ a\nb", 1, 4, asIs, asIs},
		{".\", compiled", 129, ".\" a b\" c", 2, 7, asIs, func(s *api.State) {
			laid(s, 10, 3)
			s.Here = 56
			copy(s.Mem[48:], "a b")
		}},
		{".\", said", 129, ".\" a b\" c", 2, 7, func(s *api.State) { s.Comp = false }, func(s *api.State) { s.Out = []byte("25 a b") }},
	} {
		made := func() api.State {
			s := full(64, 32, c.at)
			c.ahead(&s)
			return s
		}
		s, want := made(), made()
		c.then(&want)
		want.At = c.to
		if told, thrown, is := defs.Do(s, setup(c.source), c.op); !same(told, want) || thrown != 0 || !is {
			t.Errorf("%s: %+v, %d, %v, not %+v", c.name, told, thrown, is, want)
		}
		if !sameRoom(s, made()) {
			t.Errorf("%s: handed in, it is %+v now", c.name, s)
		}
	}
}

// TestExample is the chapter's: CONSTANT, of 5, and the source x: the word X, and (LIT) 5 EXIT (P12.2).
func TestExample(t *testing.T) {
	s := api.State{Mem: make([]byte, 512), Here: 256, Data: []int{5}}
	want := api.State{
		Mem: cells(make([]byte, 512), 256, 2, 5, 1), Here: 280, At: 1,
		Words: []api.Word{{Name: "X", Code: 256}}, Spots: []api.Spot{{Addr: 256}, {Addr: 264}, {Addr: 272}},
	}
	if told, thrown, is := defs.Do(s, api.Setup{Source: "x", Depth: 4}, 113); !same(told, want) || thrown != 0 || !is {
		t.Errorf("%+v, %d, %v", told, thrown, is)
	}
}

// TestOthers has all numbers that aren't the table's: false, nothing thrown, and a zero state, whatever the state and the source are (P12.2).
func TestOthers(t *testing.T) {
	all := []int{least, least + 1, least + 110, -1 << 32, -1<<32 + 110, 1<<32 + 110, 1 << 31, greatest - 1, greatest}
	for op := -300; op <= 600; op++ {
		all = append(all, op)
	}
	states := []api.State{{}, full(64, 32, 0), full(64, 30, 3), full(64, 64, -1), full(0, least, greatest)}
	for _, op := range all {
		for n, s := range states {
			for _, source := range []string{"", "x", "sq dup", "' dup"} {
				told, thrown, is := defs.Do(s, setup(source), op)
				if is != slices.Contains(numbers, op) || !is && (thrown != 0 || !same(told, api.State{})) {
					t.Errorf("%d, of the state %d, and %q: %+v, %d, %v", op, n, source, told, thrown, is)
				}
			}
		}
	}
}

// TestZeroState has a state, and a setup, without anything (P1, P12.2).
func TestZeroState(t *testing.T) {
	codes := map[int]int{
		110: -16, 111: -22, 112: -13, 113: -4, 114: -16, 115: -16, 116: -8, 117: -16, 118: -16, 119: -16, 120: -4, 121: -16,
		122: 0, 123: 0, 125: -16, 126: -16, 127: 0, 128: 0, 129: 0,
	}
	for _, op := range numbers {
		told, thrown, is := defs.Do(api.State{}, api.Setup{}, op)
		if !same(told, api.State{Comp: op == 123}) || thrown != codes[op] || !is {
			t.Errorf("%d: %+v, %d, %v", op, told, thrown, is)
		}
	}
}
