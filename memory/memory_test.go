package memory_test

import (
	"bytes"
	"math"
	"testing"

	"nostos/api"
	"nostos/memory"
)

// P3.1
func TestCell(t *testing.T) {
	each := []byte{1, 2, 3, 4, 5, 6, 7, 8, 0xF1, 0xE2, 0xD3, 0xC4, 0xB5, 0xA6, 0x97, 0x88}
	for _, c := range []struct {
		mem       []byte
		at        int
		v, thrown int
		what      string
	}{
		{[]byte{1, 0, 0, 0, 0, 0, 0, 0}, 0, 1, 0, "the chapter's example"},
		{each, 0, 0x0807060504030201, 0, "each byte another one"},
		{each, 8, -0x7768594A3B2C1D0F, 0, "a cell below 0"},
		{[]byte{0, 0, 0, 0, 0, 0, 0, 0x80}, 0, math.MinInt, 0, "the least cell"},
		{[]byte{255, 255, 255, 255, 255, 255, 255, 127}, 0, math.MaxInt, 0, "the greatest cell"},
		{bytes.Repeat([]byte{255}, 8), 0, -1, 0, "all bits"},
		{make([]byte, 8), 0, 0, 0, "no bits"},
		{each, 1, 0, api.Align, "no multiple of 8"},
		{each, 7, 0, api.Align, "ahead of the last cell"},
		{each, 9, 0, api.Address, "no multiple of 8, and beyond: Address is named first"},
		{each, 15, 0, api.Address, "the last byte"},
		{each, 16, 0, api.Address, "the first cell that is none"},
		{each, 17, 0, api.Address, "behind the end"},
		{each[:15], 8, 0, api.Address, "a byte too few"},
		{each[:12], 4, 0, api.Align, "the last eight bytes"},
		{each[:12], 5, 0, api.Address, "behind the last eight bytes"},
		{each, -8, 0, api.Address, "below 0"},
		{each, -1, 0, api.Address, "below 0, no multiple of 8"},
		{each[:7], 0, 0, api.Address, "fewer than eight bytes"},
		{nil, 0, 0, api.Address, "nil"},
		{[]byte{}, 0, 0, api.Address, "empty"},
	} {
		if v, thrown := memory.Cell(c.mem, c.at); v != c.v || thrown != c.thrown {
			t.Errorf("%s: %v at %d: %d, %d", c.what, c.mem, c.at, v, thrown)
		}
	}
}

// P3.1
func TestByte(t *testing.T) {
	mem := []byte{7, 0, 255, 128, 127, 1}
	for at, want := range mem {
		if v, thrown := memory.Byte(mem, at); v != int(want) || thrown != 0 {
			t.Errorf("%d: %d, %d", at, v, thrown)
		}
	}
	for _, at := range []int{-1, -8, len(mem), len(mem) + 1, 8, math.MinInt, math.MaxInt} {
		if v, thrown := memory.Byte(mem, at); v != 0 || thrown != -9 {
			t.Errorf("%d: %d, %d", at, v, thrown)
		}
	}
	for _, none := range [][]byte{nil, {}} {
		if v, thrown := memory.Byte(none, 0); v != 0 || thrown != -9 {
			t.Errorf("of none: %d, %d", v, thrown)
		}
	}
}

// TestThrown has the very numbers that a program is told, and their order (P3.1, P3.2, P3.3).
func TestThrown(t *testing.T) {
	mem := make([]byte, 20)
	for at, want := range map[int]int{0: 0, 8: 0, 1: -23, 12: -23, 13: -9, 16: -9, 20: -9, -8: -9, -3: -9} {
		if _, thrown := memory.Cell(mem, at); thrown != want {
			t.Errorf("cell at %d: %d", at, thrown)
		}
		if _, thrown := memory.SetCell(mem, at, 5); thrown != want {
			t.Errorf("cell set at %d: %d", at, thrown)
		}
	}
	for at, want := range map[int]int{0: 0, 13: 0, 19: 0, 20: -9, -1: -9} {
		if _, thrown := memory.Byte(mem, at); thrown != want {
			t.Errorf("byte at %d: %d", at, thrown)
		}
		if _, thrown := memory.SetByte(mem, at, 5); thrown != want {
			t.Errorf("byte set at %d: %d", at, thrown)
		}
		if _, thrown := memory.Bytes(mem, at, 1); thrown != want {
			t.Errorf("bytes at %d: %d", at, thrown)
		}
	}
}

// P3.2
func TestSetCell(t *testing.T) {
	mem := []byte{91, 92, 93, 94, 95, 96, 97, 98, 99, 100, 101, 102, 103, 104, 105, 106, 107, 108}
	for _, c := range []struct {
		at, v int
		want  []byte
	}{
		{0, 0x0807060504030201, []byte{1, 2, 3, 4, 5, 6, 7, 8, 99, 100, 101, 102, 103, 104, 105, 106, 107, 108}},
		{8, -0x7768594A3B2C1D0F, []byte{91, 92, 93, 94, 95, 96, 97, 98, 0xF1, 0xE2, 0xD3, 0xC4, 0xB5, 0xA6, 0x97, 0x88, 107, 108}},
		{8, 1, []byte{91, 92, 93, 94, 95, 96, 97, 98, 1, 0, 0, 0, 0, 0, 0, 0, 107, 108}},
		{0, -1, []byte{255, 255, 255, 255, 255, 255, 255, 255, 99, 100, 101, 102, 103, 104, 105, 106, 107, 108}},
		{0, math.MinInt, []byte{0, 0, 0, 0, 0, 0, 0, 128, 99, 100, 101, 102, 103, 104, 105, 106, 107, 108}},
		{0, -256, []byte{0, 255, 255, 255, 255, 255, 255, 255, 99, 100, 101, 102, 103, 104, 105, 106, 107, 108}},
	} {
		if told, thrown := memory.SetCell(mem, c.at, c.v); !bytes.Equal(told, c.want) || thrown != 0 {
			t.Errorf("%d at %d: %v, %d", c.v, c.at, told, thrown)
		}
	}
	for _, at := range []int{1, 4, 7, 9, 10} {
		if told, thrown := memory.SetCell(mem, at, 1); told != nil || thrown != -23 {
			t.Errorf("at %d: %v, %d", at, told, thrown)
		}
	}
	for _, at := range []int{11, 16, 17, 18, 24, -1, -8, math.MinInt, math.MinInt + 8, math.MaxInt, math.MaxInt - 7} {
		if told, thrown := memory.SetCell(mem, at, 1); told != nil || thrown != -9 {
			t.Errorf("at %d: %v, %d", at, told, thrown)
		}
	}
	for _, few := range [][]byte{nil, {}, mem[:1], mem[:7]} {
		if told, thrown := memory.SetCell(few, 0, 1); told != nil || thrown != -9 {
			t.Errorf("of %v: %v, %d", few, told, thrown)
		}
	}
}

// P3.2
func TestSetByte(t *testing.T) {
	mem := []byte{91, 92, 93, 94, 95, 96, 97, 98, 99}
	for _, c := range []struct {
		v    int
		want byte
	}{
		{0, 0}, {1, 1}, {127, 127}, {128, 128}, {255, 255}, {256, 0}, {257, 1}, {0x1234, 0x34},
		{-1, 255}, {-2, 254}, {-128, 128}, {-255, 1}, {-256, 0}, {math.MaxInt, 255}, {math.MinInt, 0}, {math.MinInt + 5, 5},
	} {
		for at := range mem {
			want := bytes.Clone(mem)
			want[at] = c.want
			if told, thrown := memory.SetByte(mem, at, c.v); !bytes.Equal(told, want) || thrown != 0 {
				t.Errorf("%d at %d: %v, %d", c.v, at, told, thrown)
			}
		}
	}
	for _, at := range []int{-1, -8, 9, 10, 16, math.MinInt, math.MaxInt} {
		if told, thrown := memory.SetByte(mem, at, 1); told != nil || thrown != -9 {
			t.Errorf("at %d: %v, %d", at, told, thrown)
		}
	}
	for _, none := range [][]byte{nil, {}} {
		if told, thrown := memory.SetByte(none, 0, 1); told != nil || thrown != -9 {
			t.Errorf("of none: %v, %d", told, thrown)
		}
	}
}

// P3.3
func TestBytes(t *testing.T) {
	mem := []byte{1, 2, 3, 4, 5, 6, 7, 8, 9, 10}
	for _, c := range []struct {
		at, many int
		want     []byte
		thrown   int
	}{
		{0, 1, []byte{1}, 0}, {3, 4, []byte{4, 5, 6, 7}, 0}, {0, 10, mem, 0}, {9, 1, []byte{10}, 0}, {1, 9, mem[1:], 0},
		{0, 0, nil, 0}, {5, 0, nil, 0}, {9, 0, nil, 0}, {10, 0, nil, 0},
		{11, 0, nil, -9}, {math.MaxInt, 0, nil, -9}, {-1, 0, nil, -9}, {math.MinInt, 0, nil, -9},
		{0, -1, nil, -9}, {5, -1, nil, -9}, {10, -1, nil, -9}, {11, -1, nil, -9}, {0, math.MinInt, nil, -9}, {10, math.MinInt, nil, -9},
		{math.MaxInt, -1, nil, -9}, {math.MaxInt, math.MinInt, nil, -9}, {math.MinInt, math.MinInt, nil, -9}, {-1, -1, nil, -9},
		{0, 11, nil, -9}, {1, 10, nil, -9}, {9, 2, nil, -9}, {10, 1, nil, -9}, {11, 1, nil, -9}, {-1, 1, nil, -9}, {-1, 2, nil, -9}, {-5, 10, nil, -9},
		{0, math.MaxInt, nil, -9}, {1, math.MaxInt, nil, -9}, {10, math.MaxInt, nil, -9}, {math.MaxInt, math.MaxInt, nil, -9},
		{math.MaxInt, 1, nil, -9}, {math.MinInt, math.MaxInt, nil, -9}, {-1, math.MaxInt, nil, -9}, {1, math.MaxInt - 8, nil, -9},
	} {
		if told, thrown := memory.Bytes(mem, c.at, c.many); !bytes.Equal(told, c.want) || thrown != c.thrown {
			t.Errorf("%d at %d: %v, %d", c.many, c.at, told, thrown)
		}
	}
}

// P3.3
func TestBytesOfNone(t *testing.T) {
	for _, none := range [][]byte{nil, {}} {
		if told, thrown := memory.Bytes(none, 0, 0); len(told) != 0 || thrown != 0 {
			t.Errorf("none at 0: %v, %d", told, thrown)
		}
		for _, c := range [][2]int{{1, 0}, {-1, 0}, {0, 1}, {0, -1}, {-1, 1}, {1, -1}, {math.MaxInt, 0}, {0, math.MaxInt}} {
			if told, thrown := memory.Bytes(none, c[0], c[1]); told != nil || thrown != -9 {
				t.Errorf("%d at %d: %v, %d", c[1], c[0], told, thrown)
			}
		}
	}
}

// TestZeroWithThrown holds that nothing else is told beside what is thrown (the chapter's Words; R1).
func TestZeroWithThrown(t *testing.T) {
	mem := bytes.Repeat([]byte{255}, 24)
	for _, at := range addresses(len(mem)) {
		if v, thrown := memory.Cell(mem, at); thrown != 0 && v != 0 {
			t.Errorf("cell at %d: %d", at, v)
		}
		if v, thrown := memory.Byte(mem, at); thrown != 0 && v != 0 {
			t.Errorf("byte at %d: %d", at, v)
		}
		if told, thrown := memory.SetCell(mem, at, 1); thrown != 0 && told != nil {
			t.Errorf("cell set at %d: %v", at, told)
		}
		if told, thrown := memory.SetByte(mem, at, 1); thrown != 0 && told != nil {
			t.Errorf("byte set at %d: %v", at, told)
		}
		if told, thrown := memory.Bytes(mem, at, 2); thrown != 0 && told != nil {
			t.Errorf("bytes at %d: %v", at, told)
		}
	}
}
