package asm_test

import (
	"bytes"
	"encoding/binary"
	"math"
	"math/big"
	"slices"
	"testing"

	"nostos/api"
	"nostos/asm"
)

const (
	least    = math.MinInt
	greatest = math.MaxInt
)

// values are cells with each byte another one, cells of either sign, and those at the ends.
var values = []int{0, 1, -1, 2, 8, 10, 137, 255, 256, -256, 0x0807060504030201, -0x7768594A3B2C1D0F, greatest, least}

// filled are so many bytes, no two neighbouring cells the same, in room that goes on behind them.
func filled(many int) []byte {
	room := make([]byte, many+24)
	for at := range room {
		room[at] = byte(at*37 + at/8 + 11)
	}
	return room[:many]
}

// full is a state of such memory, none of whose fields is zero, with room behind all its lists.
func full(many, here int) api.State {
	return api.State{
		Mem:   filled(many),
		Data:  append(make([]int, 0, 8), 5, -6),
		Ret:   append(make([]api.Slot, 0, 8), api.Slot{V: 264, Call: true}, api.Slot{V: 7}),
		Ctl:   append(make([]int, 0, 8), 1, 272),
		Words: append(make([]api.Word, 0, 8), api.Word{Name: "SQ", Code: 256, Now: true}, api.Word{Name: "X", Code: 280, Hid: true}),
		Spots: append(make([]api.Spot, 0, 8), api.Spot{Addr: -8, At: 3}, api.Spot{Addr: 0, At: 4}),
		Out:   append(make([]byte, 0, 8), "25 "...),
		Ip:    256, Here: here, At: 12, Tok: 9, In: 2, Err: -13, Comp: true, Halt: true,
	}
}

// whole is a list with the room behind its end.
func whole[T any](l []T) []T {
	return l[:cap(l)]
}

// sameBut tells whether two states are the same, but for Mem, Spots and Here.
func sameBut(a, b api.State) bool {
	return slices.Equal(a.Data, b.Data) && slices.Equal(a.Ret, b.Ret) && slices.Equal(a.Ctl, b.Ctl) &&
		slices.Equal(a.Words, b.Words) && bytes.Equal(a.Out, b.Out) &&
		a.Ip == b.Ip && a.At == b.At && a.Tok == b.Tok && a.In == b.In && a.Err == b.Err && a.Comp == b.Comp && a.Halt == b.Halt
}

// same tells whether two states are the same.
func same(a, b api.State) bool {
	return sameBut(a, b) && bytes.Equal(a.Mem, b.Mem) && slices.Equal(a.Spots, b.Spots) && a.Here == b.Here
}

// sameRoom tells whether two states are the same, with what lies behind the ends of their lists.
func sameRoom(a, b api.State) bool {
	return same(a, b) && bytes.Equal(whole(a.Mem), whole(b.Mem)) && slices.Equal(whole(a.Data), whole(b.Data)) &&
		slices.Equal(whole(a.Ret), whole(b.Ret)) && slices.Equal(whole(a.Ctl), whole(b.Ctl)) && slices.Equal(whole(a.Words), whole(b.Words)) &&
		slices.Equal(whole(a.Spots), whole(b.Spots)) && bytes.Equal(whole(a.Out), whole(b.Out))
}

// addresses are all in and around some bytes, and those at the ends of all cells.
func addresses(many int) []int {
	l := []int{
		least, least + 1, least + 7, least + 8, least + 9, least + 16, least / 2, -1 << 32, -1 << 31,
		1 << 31, 1 << 32, 1<<32 + 8, greatest / 2, greatest - 16, greatest - 15, greatest - 8, greatest - 7, greatest - 1, greatest,
	}
	for at := -20; at < many+40; at++ {
		l = append(l, at)
	}
	return l
}

// number is a whole number without bounds.
func number(n int) *big.Int {
	return big.NewInt(int64(n))
}

// sum is that of some numbers, which doesn't go round.
func sum(l ...int) *big.Int {
	all := new(big.Int)
	for _, n := range l {
		all.Add(all, number(n))
	}
	return all
}

// thrownOfCell is what memory.Cell and memory.SetCell throw, of so many bytes.
func thrownOfCell(length, at int) int {
	switch {
	case at < 0 || sum(at, 8).Cmp(number(length)) > 0:
		return api.Address
	case at&7 != 0:
		return api.Align
	}
	return 0
}

// thrownOfComma is what Comma is to throw, of so many bytes.
func thrownOfComma(length, here int) int {
	if number(here).Cmp(sum(length, -8)) > 0 {
		return api.Full
	}
	return thrownOfCell(length, here)
}

// with is memory with a cell at an address.
func with(mem []byte, at, v int) []byte {
	told := bytes.Clone(mem)
	binary.LittleEndian.PutUint64(told[at:], uint64(v))
	return told
}

// P10.1
func TestUp(t *testing.T) {
	for _, c := range [][2]int{
		{9, 16}, {16, 16}, {0, 0}, {1, 8}, {7, 8}, {8, 8}, {15, 16}, {17, 24}, {255, 256}, {256, 256}, {257, 264},
		{-1, 0}, {-7, 0}, {-8, -8}, {-9, -8}, {-15, -8}, {-16, -16}, {-17, -16},
		{least, least}, {least + 1, least + 8}, {least + 7, least + 8}, {least + 8, least + 8}, {least + 9, least + 16},
		{greatest - 8, greatest - 7}, {greatest - 7, greatest - 7}, {greatest - 6, least}, {greatest - 1, least}, {greatest, least},
	} {
		if up := asm.Up(c[0]); up != c[1] {
			t.Errorf("%d: %d, not %d", c[0], up, c[1])
		}
	}
}

// TestUpAll goes up by ones, from whole numbers without bounds: those at which it goes round, too (P10.1).
func TestUpAll(t *testing.T) {
	eight, round := big.NewInt(8), new(big.Int).Lsh(big.NewInt(1), 64)
	for shift := range 63 {
		for _, near := range []int{1 << shift, -1 << shift, least, greatest} {
			for by := -20; by <= 20; by++ {
				at := near + by
				want := number(at)
				for new(big.Int).Mod(want, eight).Sign() != 0 {
					want.Add(want, big.NewInt(1))
				}
				if !want.IsInt64() {
					want.Sub(want, round)
				}
				if up := asm.Up(at); number(up).Cmp(want) != 0 {
					t.Errorf("%d: %d, not %d", at, up, want)
				}
			}
		}
	}
}

// TestComma has the very numbers that are thrown, the first of several named first (P10.1).
func TestComma(t *testing.T) {
	for _, c := range []struct {
		many, here, thrown int
		what               string
	}{
		{24, 0, 0, "at the begin"}, {24, 8, 0, "in the middle"}, {24, 16, 0, "just 8 bytes ahead of the end"}, {31, 16, 0, "a last cell that is cut"},
		{24, 17, -8, "one above that: full, though it is no multiple of 8"}, {24, 24, -8, "at the end"}, {24, 32, -8, "behind the end"}, {23, 16, -8, "a byte too few"},
		{24, greatest, -8, "the greatest integer"}, {24, greatest - 7, -8, "the greatest multiple of 8"},
		{24, 1, -23, "no multiple of 8"}, {24, 15, -23, "no multiple of 8, in the middle"}, {31, 23, -23, "no multiple of 8, just 8 bytes ahead of the end"},
		{24, -8, -9, "below 0"}, {24, -1, -9, "below 0, and no multiple of 8"}, {24, least, -9, "the least integer"}, {24, least + 1, -9, "one above it"},
		{8, 0, 0, "eight bytes"}, {8, 1, -8, "of eight bytes, one above"},
		{7, 0, -8, "seven bytes"}, {7, -1, -9, "of seven bytes, just 8 ahead of the end"}, {7, -8, -9, "of seven bytes, a multiple of 8"},
		{0, 0, -8, "no byte"}, {0, -7, -8, "of no byte, one above 8 bytes ahead of the end"}, {0, -8, -9, "of no byte, just 8 ahead of the end"}, {0, least, -9, "of no byte, the least integer"},
	} {
		s := full(c.many, c.here)
		told, thrown := asm.Comma(s, -0x7768594A3B2C1D0F)
		want := api.State{}
		if c.thrown == 0 {
			want = full(c.many, c.here+8)
			want.Mem = with(want.Mem, c.here, -0x7768594A3B2C1D0F)
		}
		if !same(told, want) || thrown != c.thrown {
			t.Errorf("%s: %+v, %d", c.what, told, thrown)
		}
	}
	for _, s := range []api.State{{}, {Mem: []byte{}}} {
		if told, thrown := asm.Comma(s, 1); !same(told, api.State{}) || thrown != -8 {
			t.Errorf("of no memory: %+v, %d", told, thrown)
		}
	}
}

// TestCommaAll has all places in and around memories of up to 40 bytes: only Mem and Here change, in what is told alone (P10.1; R3, R7).
func TestCommaAll(t *testing.T) {
	for many := range 41 {
		for _, here := range addresses(many) {
			for _, v := range values {
				s := full(many, here)
				told, thrown := asm.Comma(s, v)
				want, code := api.State{}, thrownOfComma(many, here)
				if code == 0 {
					want = full(many, here+8)
					want.Mem = with(want.Mem, here, v)
				}
				if !same(told, want) || thrown != code {
					t.Fatalf("%d at %d of %d bytes: %+v, %d, not %+v, %d", v, here, many, told, thrown, want, code)
				}
				if !sameRoom(s, full(many, here)) {
					t.Fatalf("%d at %d of %d bytes: handed in, it is %+v now", v, here, many, s)
				}
			}
		}
	}
}

// TestPatch has the very numbers that are thrown (P10.1).
func TestPatch(t *testing.T) {
	for _, c := range []struct{ many, at, thrown int }{
		{24, 0, 0}, {24, 8, 0}, {24, 16, 0}, {31, 16, 0}, {24, 1, -23}, {24, 15, -23}, {24, 17, -9}, {24, 24, -9}, {23, 16, -9}, {24, 32, -9},
		{24, -1, -9}, {24, -8, -9}, {24, least, -9}, {24, greatest, -9}, {24, greatest - 7, -9}, {7, 0, -9}, {0, 0, -9}, {0, -8, -9},
	} {
		told, thrown := asm.Patch(full(c.many, 8), c.at, 0x0807060504030201)
		want := api.State{}
		if c.thrown == 0 {
			want = full(c.many, 8)
			want.Mem = with(want.Mem, c.at, 0x0807060504030201)
		}
		if !same(told, want) || thrown != c.thrown {
			t.Errorf("at %d of %d bytes: %+v, %d", c.at, c.many, told, thrown)
		}
	}
}

// TestPatchAll has all addresses in and around memories of up to 40 bytes, wherever Here is: only Mem changes, in what is told alone (P10.1; R3, R7).
func TestPatchAll(t *testing.T) {
	for many := range 41 {
		for _, at := range addresses(many) {
			for n, v := range values {
				here := []int{0, at, many, least, greatest}[n%5]
				s := full(many, here)
				told, thrown := asm.Patch(s, at, v)
				want, code := api.State{}, thrownOfCell(many, at)
				if code == 0 {
					want = full(many, here)
					want.Mem = with(want.Mem, at, v)
				}
				if !same(told, want) || thrown != code {
					t.Fatalf("%d at %d of %d bytes: %+v, %d, not %+v, %d", v, at, many, told, thrown, want, code)
				}
				if !sameRoom(s, full(many, here)) {
					t.Fatalf("%d at %d of %d bytes: handed in, it is %+v now", v, at, many, s)
				}
			}
		}
	}
}
