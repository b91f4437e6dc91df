package memory_test

import (
	"bytes"
	"encoding/binary"
	"math"
	"math/big"
	"testing"

	"nostos/api"
	"nostos/memory"
)

// values are cells with each byte another one, cells of either sign, and those at which a byte's bits end.
var values = []int{
	0, 1, -1, 2, -2, 127, 128, 255, 256, 257, -127, -128, -129, -255, -256, -257, 65535, 65536, -65536,
	1 << 31, -1 << 31, 1 << 32, -1 << 32, 0x0807060504030201, 0x0102030405060708, -0x0807060504030201, -0x7768594A3B2C1D0F,
	math.MaxInt, math.MaxInt - 1, math.MinInt, math.MinInt + 1,
}

// filled are so many bytes, no two neighbours or neighbouring cells the same, in room that goes on behind them.
func filled(many int) []byte {
	room := make([]byte, many+24)
	for at := range room {
		room[at] = byte(at*37 + at/8 + 11)
	}
	return room[:many]
}

// addresses are all in and around some bytes, and those at the ends of all cells.
func addresses(many int) []int {
	l := []int{
		math.MinInt, math.MinInt + 1, math.MinInt + 7, math.MinInt + 8, math.MinInt + 16, math.MinInt / 2, -1 << 32, -1 << 31,
		1 << 31, 1 << 32, 1<<32 + 8, math.MaxInt / 2, math.MaxInt - 16, math.MaxInt - 15, math.MaxInt - 8, math.MaxInt - 7, math.MaxInt - 1, math.MaxInt,
	}
	for at := -20; at < many+40; at++ {
		l = append(l, at)
	}
	return l
}

// inside tells by whole numbers whether the bytes from an address on are all among so many.
func inside(length, at, many int) bool {
	end := new(big.Int).Add(big.NewInt(int64(at)), big.NewInt(int64(many)))
	return at >= 0 && many >= 0 && end.Cmp(big.NewInt(int64(length))) <= 0
}

// thrownOfCell is what Cell and SetCell are to throw.
func thrownOfCell(length, at int) int {
	switch {
	case !inside(length, at, 8):
		return api.Address
	case at&7 != 0:
		return api.Align
	}
	return 0
}

// thrownOfBytes is what Byte, SetByte and Bytes are to throw.
func thrownOfBytes(length, at, many int) int {
	if inside(length, at, many) {
		return 0
	}
	return api.Address
}

// P3.1
func TestReadAll(t *testing.T) {
	for length := range 41 {
		mem := filled(length)
		for _, at := range addresses(length) {
			want, code := 0, thrownOfCell(length, at)
			if code == 0 {
				want = int(binary.LittleEndian.Uint64(mem[at:]))
			}
			if v, thrown := memory.Cell(mem, at); v != want || thrown != code {
				t.Errorf("cell at %d of %d bytes: %d, %d", at, length, v, thrown)
			}
			want, code = 0, thrownOfBytes(length, at, 1)
			if code == 0 {
				want = int(mem[at])
			}
			if v, thrown := memory.Byte(mem, at); v != want || thrown != code {
				t.Errorf("byte at %d of %d bytes: %d, %d", at, length, v, thrown)
			}
		}
	}
}

// P3.3
func TestBytesAll(t *testing.T) {
	for length := range 21 {
		mem := filled(length)
		for _, at := range addresses(length) {
			for _, many := range addresses(length) {
				var want []byte
				code := thrownOfBytes(length, at, many)
				if code == 0 {
					want = mem[at : at+many]
				}
				if told, thrown := memory.Bytes(mem, at, many); !bytes.Equal(told, want) || thrown != code {
					t.Errorf("%d at %d of %d bytes: %v, %d", many, at, length, told, thrown)
				}
			}
		}
	}
}

// same tells whether what was handed in is as it was, with what stands behind it in the same room.
func same(mem, was []byte) bool {
	return bytes.Equal(mem[:cap(mem)], was[:cap(was)])
}

// P3.2, P3.4
func TestSetCellAll(t *testing.T) {
	for length := range 35 {
		mem, was := filled(length), filled(length)
		for _, at := range addresses(length) {
			for _, v := range values {
				var want []byte
				code := thrownOfCell(length, at)
				if code == 0 {
					want = bytes.Clone(was)
					binary.LittleEndian.PutUint64(want[at:], uint64(v))
				}
				told, thrown := memory.SetCell(mem, at, v)
				if !bytes.Equal(told, want) || thrown != code {
					t.Fatalf("%d at %d of %d bytes: %v, %d", v, at, length, told, thrown)
				}
				if !same(mem, was) {
					t.Fatalf("%d at %d of %d bytes: handed in, it is %v now", v, at, length, mem)
				}
				if back, thrown := memory.Cell(told, at); code == 0 && (back != v || thrown != 0) {
					t.Fatalf("%d at %d of %d bytes: %d is there, %d", v, at, length, back, thrown)
				}
			}
		}
	}
}

// P3.2, P3.4
func TestSetByteAll(t *testing.T) {
	for length := range 19 {
		mem, was := filled(length), filled(length)
		for _, at := range addresses(length) {
			for _, v := range values {
				var want []byte
				code := thrownOfBytes(length, at, 1)
				if code == 0 {
					want = bytes.Clone(was)
					want[at] = byte(v)
				}
				told, thrown := memory.SetByte(mem, at, v)
				if !bytes.Equal(told, want) || thrown != code {
					t.Fatalf("%d at %d of %d bytes: %v, %d", v, at, length, told, thrown)
				}
				if !same(mem, was) {
					t.Fatalf("%d at %d of %d bytes: handed in, it is %v now", v, at, length, mem)
				}
				if back, thrown := memory.Byte(told, at); code == 0 && (back != v&255 || thrown != 0) {
					t.Fatalf("%d at %d of %d bytes: %d is there, %d", v, at, length, back, thrown)
				}
			}
		}
	}
}

// TestReadKeeps holds that what is read stays as it is (P3.4).
func TestReadKeeps(t *testing.T) {
	mem, was := filled(24), filled(24)
	for _, at := range addresses(24) {
		memory.Cell(mem, at)
		memory.Byte(mem, at)
		for _, many := range addresses(24) {
			memory.Bytes(mem, at, many)
		}
	}
	if !same(mem, was) {
		t.Errorf("%v", mem)
	}
}

// TestSetOnAndOn sets all cells, one in what came of the one before: each stays, and no memory told earlier is changed by what is set later (P3.4).
func TestSetOnAndOn(t *testing.T) {
	all := [][]byte{filled(api.Cell * len(values))}
	for n, v := range values {
		next, thrown := memory.SetCell(all[n], n*api.Cell, v)
		if thrown != 0 {
			t.Fatalf("cell %d: %d", n, thrown)
		}
		all = append(all, next)
	}
	first := filled(api.Cell * len(values))
	for n, mem := range all {
		for i, v := range values {
			want := v
			if i >= n {
				want = int(binary.LittleEndian.Uint64(first[i*api.Cell:]))
			}
			if got, thrown := memory.Cell(mem, i*api.Cell); got != want || thrown != 0 {
				t.Errorf("behind %d of them, cell %d: %d, %d", n, i, got, thrown)
			}
		}
	}
}

// TestOwnMemory writes into all that is told: nothing of it is to be seen in what was handed in (P3.4).
func TestOwnMemory(t *testing.T) {
	mem, was := filled(24), filled(24)
	spoil := func(told []byte, thrown int) {
		if thrown != 0 {
			t.Errorf("%d", thrown)
		}
		told = told[:cap(told)]
		for at := range told {
			told[at]++
		}
	}
	spoil(memory.SetCell(mem, 8, 5))
	spoil(memory.SetByte(mem, 9, 5))
	spoil(memory.Bytes(mem, 0, 24))
	spoil(memory.Bytes(mem, 3, 4))
	spoil(memory.Bytes(mem, 24, 0))
	if !same(mem, was) {
		t.Errorf("%v", mem[:cap(mem)])
	}
}

// TestGreatest has the greatest memory that a machine has, and its last cell (P3.1 to P3.4).
func TestGreatest(t *testing.T) {
	mem := make([]byte, api.MaxSize)
	told, thrown := memory.SetCell(mem, api.MaxSize-8, -5)
	if thrown != 0 {
		t.Fatalf("%d", thrown)
	}
	if v, thrown := memory.Cell(told, api.MaxSize-8); v != -5 || thrown != 0 {
		t.Errorf("%d, %d", v, thrown)
	}
	if v, thrown := memory.Byte(told, api.MaxSize-8); v != 251 || thrown != 0 {
		t.Errorf("%d, %d", v, thrown)
	}
	if all, thrown := memory.Bytes(told, 0, api.MaxSize); !bytes.Equal(all, told) || thrown != 0 {
		t.Errorf("%d bytes, %d", len(all), thrown)
	}
	if _, thrown := memory.SetCell(told, api.MaxSize, 1); thrown != api.Address {
		t.Errorf("%d", thrown)
	}
	if _, thrown := memory.SetByte(told, api.MaxSize, 1); thrown != api.Address {
		t.Errorf("%d", thrown)
	}
}
