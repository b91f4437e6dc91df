package flow_test

import (
	"bytes"
	"encoding/binary"
	"math"
	"slices"
	"testing"

	"nostos/api"
	"nostos/flow"
)

const (
	least    = math.MinInt
	greatest = math.MaxInt
)

// numbers are those of the table's words, in its order.
var numbers = []int{98, 99, 100, 101, 102, 103, 104, 105, 106, 107, 108, 109}

// filled are so many bytes, of cells that are 101, 102, and so on, in room that goes on behind them.
func filled(many int) []byte {
	var room []byte
	for n := 0; len(room) < many+24; n++ {
		room = binary.LittleEndian.AppendUint64(room, uint64(101+n))
	}
	return room[:many]
}

// roomy is a list with room behind its end, where something stands.
func roomy[T any](behind T, l ...T) []T {
	room := slices.Clone(l)
	for range 6 {
		room = append(room, behind)
	}
	return room[:len(l)]
}

// full is a state of such memory, and that control stack, none of whose fields is zero, with room behind all its lists.
func full(many, here int, ctl ...int) api.State {
	return api.State{
		Mem:   filled(many),
		Data:  roomy(-71, 5, -6),
		Ret:   roomy(api.Slot{V: -72}, api.Slot{V: 264, Call: true}, api.Slot{V: 7}),
		Ctl:   roomy(-73, ctl...),
		Words: roomy(api.Word{Name: "BEHIND", Code: -74, Hid: true}, api.Word{Name: "SQ", Code: 256, Now: true}, api.Word{Name: "X", Code: 280, Hid: true}),
		Spots: roomy(api.Spot{Addr: -75, At: -75}, api.Spot{Addr: 0, At: 1}, api.Spot{Addr: 32, At: 2}, api.Spot{Addr: 40, At: 3}),
		Out:   roomy(byte('x'), '2', '5', ' '),
		Ip:    256, Here: here, At: 12, Tok: 9, In: 2, Err: -13, Comp: true, Halt: true,
	}
}

// whole is a list with the room behind its end.
func whole[T any](l []T) []T {
	return l[:cap(l)]
}

// same tells whether two states are the same.
func same(a, b api.State) bool {
	return bytes.Equal(a.Mem, b.Mem) && slices.Equal(a.Data, b.Data) && slices.Equal(a.Ret, b.Ret) && slices.Equal(a.Ctl, b.Ctl) &&
		slices.Equal(a.Words, b.Words) && slices.Equal(a.Spots, b.Spots) && bytes.Equal(a.Out, b.Out) &&
		a.Ip == b.Ip && a.Here == b.Here && a.At == b.At && a.Tok == b.Tok && a.In == b.In && a.Err == b.Err && a.Comp == b.Comp && a.Halt == b.Halt
}

// sameRoom tells whether two states are the same, with what lies behind the ends of their lists.
func sameRoom(a, b api.State) bool {
	return same(a, b) && bytes.Equal(whole(a.Mem), whole(b.Mem)) && slices.Equal(whole(a.Data), whole(b.Data)) &&
		slices.Equal(whole(a.Ret), whole(b.Ret)) && slices.Equal(whole(a.Ctl), whole(b.Ctl)) && slices.Equal(whole(a.Words), whole(b.Words)) &&
		slices.Equal(whole(a.Spots), whole(b.Spots)) && bytes.Equal(whole(a.Out), whole(b.Out))
}

// with is memory with a cell at an address.
func with(mem []byte, at, v int) []byte {
	told := bytes.Clone(mem)
	binary.LittleEndian.PutUint64(told[at:], uint64(v))
	return told
}

// cellAt is the cell at an address.
func cellAt(mem []byte, at int) int {
	return int(binary.LittleEndian.Uint64(mem[at:]))
}

// TestTable has each word of the table by its number and its results written out: memory of eight cells from 101 to 108, Here 32, and numbers below the pairs that a word wants (P11.1).
func TestTable(t *testing.T) {
	one := []api.Spot{{Addr: 0, At: 1}, {Addr: 32, At: 9}}
	two := []api.Spot{{Addr: 0, At: 1}, {Addr: 32, At: 9}, {Addr: 40, At: 9}}
	for _, c := range []struct {
		name     string
		op       int
		ctl      []int
		mem      [8]int
		here     int
		then     []int
		spots    []api.Spot
		untilNow bool // whether Spots are as they were
	}{
		{"IF", 98, []int{7, 3, 56}, [8]int{101, 102, 103, 104, 4, 0, 107, 108}, 48, []int{7, 3, 56, 1, 40}, two, false},
		{"ELSE", 99, []int{7, 3, 56, 1, 8}, [8]int{101, 48, 103, 104, 3, 0, 107, 108}, 48, []int{7, 3, 56, 1, 40}, two, false},
		{"THEN", 100, []int{7, 3, 56, 1, 8}, [8]int{101, 32, 103, 104, 105, 106, 107, 108}, 32, []int{7, 3, 56}, nil, true},
		{"BEGIN", 101, []int{7, 3, 56}, [8]int{101, 102, 103, 104, 105, 106, 107, 108}, 32, []int{7, 3, 56, 2, 32}, nil, true},
		{"AGAIN", 102, []int{7, 3, 56, 2, 8}, [8]int{101, 102, 103, 104, 3, 8, 107, 108}, 48, []int{7, 3, 56}, two, false},
		{"UNTIL", 103, []int{7, 3, 56, 2, 8}, [8]int{101, 102, 103, 104, 4, 8, 107, 108}, 48, []int{7, 3, 56}, two, false},
		{"WHILE", 104, []int{7, 3, 56, 2, 8}, [8]int{101, 102, 103, 104, 4, 0, 107, 108}, 48, []int{7, 3, 56, 1, 40, 2, 8}, two, false},
		{"REPEAT", 105, []int{7, 3, 56, 1, 16, 2, 8}, [8]int{101, 102, 48, 104, 3, 8, 107, 108}, 48, []int{7, 3, 56}, two, false},
		{"DO", 106, []int{7, 3, 56}, [8]int{101, 102, 103, 104, 5, 0, 107, 108}, 48, []int{7, 3, 56, 3, 40}, two, false},
		{"LOOP", 107, []int{7, 3, 56, 3, 8}, [8]int{101, 48, 103, 104, 6, 16, 107, 108}, 48, []int{7, 3, 56}, two, false},
		{"+LOOP", 108, []int{7, 3, 56, 3, 8}, [8]int{101, 48, 103, 104, 7, 16, 107, 108}, 48, []int{7, 3, 56}, two, false},
		{"RECURSE", 109, []int{7, 3, 56}, [8]int{101, 102, 103, 104, 280, 106, 107, 108}, 40, []int{7, 3, 56}, one, false},
	} {
		s := full(64, 32, c.ctl...)
		want := full(64, c.here, c.then...)
		for n, v := range c.mem {
			want.Mem = with(want.Mem, 8*n, v)
		}
		if !c.untilNow {
			want.Spots = c.spots
		}
		if told, thrown, is := flow.Do(s, c.op); !same(told, want) || thrown != 0 || !is {
			t.Errorf("%s: %+v, %d, %v, not %+v", c.name, told, thrown, is, want)
		}
		if !sameRoom(s, full(64, 32, c.ctl...)) {
			t.Errorf("%s: handed in, it is %+v now", c.name, s)
		}
	}
}

// TestExample is the chapter's: IF THEN lays (0BRANCH), and the address behind it (P11.1, P11.2).
func TestExample(t *testing.T) {
	s := api.State{Mem: make([]byte, 512), Here: 256, Tok: 3}
	s, thrown, is := flow.Do(s, 98)
	if want := []int{1, 264}; thrown != 0 || !is || s.Here != 272 || !slices.Equal(s.Ctl, want) || cellAt(s.Mem, 264) != 0 {
		t.Fatalf("IF: %d, %v, %d, %v", thrown, is, s.Here, s.Ctl)
	}
	s, thrown, is = flow.Do(s, 100)
	if thrown != 0 || !is || s.Here != 272 || len(s.Ctl) != 0 || cellAt(s.Mem, 256) != 4 || cellAt(s.Mem, 264) != 272 {
		t.Errorf("THEN: %d, %v, %+v", thrown, is, s)
	}
}

// TestOthers has all numbers that aren't the table's: false, nothing thrown, and a zero state, whatever the state is (P11.1).
func TestOthers(t *testing.T) {
	all := []int{least, least + 1, least + 98, -1 << 32, -1<<32 + 98, 1<<32 + 98, 1 << 31, greatest - 1, greatest}
	for op := -300; op <= 600; op++ {
		all = append(all, op)
	}
	states := []api.State{{}, full(64, 32), full(64, 32, 1, 8), full(64, 32, 2, 8), full(64, 32, 3, 8), full(64, 32, 1, 16, 2, 8), full(64, 64, 2, 8), full(64, 4, 1, 3), full(64, 32, make([]int, 129)...)}
	for _, op := range all {
		if slices.Contains(numbers, op) {
			continue
		}
		for n, s := range states {
			if told, thrown, is := flow.Do(s, op); is || thrown != 0 || !same(told, api.State{}) {
				t.Errorf("%d, of the state %d: %+v, %d, %v", op, n, told, thrown, is)
			}
		}
	}
	for n, s := range states[1:] {
		for _, op := range numbers {
			if _, _, is := flow.Do(s, op); !is {
				t.Errorf("%d, of the state %d: false", op, n+1)
			}
		}
	}
}

// TestZeroState has a state without anything (P1, P11.1).
func TestZeroState(t *testing.T) {
	for _, op := range numbers {
		want, code := api.State{}, api.Control
		switch op {
		case 98, 106:
			code = api.Full
		case 101:
			want.Ctl, code = []int{2, 0}, 0
		}
		if told, thrown, is := flow.Do(api.State{}, op); !same(told, want) || thrown != code || !is {
			t.Errorf("%d: %+v, %d, %v", op, told, thrown, is)
		}
	}
}
