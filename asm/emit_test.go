package asm_test

import (
	"slices"
	"testing"

	"nostos/api"
	"nostos/asm"
)

// spotted is a full state with these spots, and room behind them.
func spotted(many, here int, spots []api.Spot) api.State {
	s := full(many, here)
	s.Spots = append(make([]api.Spot, 0, len(spots)+4), spots...)
	return s
}

// emitted is what Emit is to tell: of each cell a spot at its address, ahead of which only those below it stay.
func emitted(s api.State, v []int) (api.State, int) {
	for _, one := range v {
		if code := thrownOfComma(len(s.Mem), s.Here); code != 0 {
			return api.State{}, code
		}
		s.Mem = with(s.Mem, s.Here, one)
		s.Spots = append(slices.DeleteFunc(slices.Clone(s.Spots), func(spot api.Spot) bool { return spot.Addr >= s.Here }), api.Spot{Addr: s.Here, At: s.Tok})
		s.Here += 8
	}
	return s, 0
}

// TestEmit has cells as they are written in a call (P10.1).
func TestEmit(t *testing.T) {
	s := spotted(32, 8, []api.Spot{{Addr: 0, At: 1}, {Addr: 8, At: 2}, {Addr: 16, At: 3}})
	for _, c := range []struct {
		v     []int
		spots []api.Spot
	}{
		{nil, []api.Spot{{Addr: 0, At: 1}, {Addr: 8, At: 2}, {Addr: 16, At: 3}}},
		{[]int{}, []api.Spot{{Addr: 0, At: 1}, {Addr: 8, At: 2}, {Addr: 16, At: 3}}},
		{[]int{-5}, []api.Spot{{Addr: 0, At: 1}, {Addr: 8, At: 9}}},
		{[]int{-5, 6}, []api.Spot{{Addr: 0, At: 1}, {Addr: 8, At: 9}, {Addr: 16, At: 9}}},
		{[]int{-5, 6, 5}, []api.Spot{{Addr: 0, At: 1}, {Addr: 8, At: 9}, {Addr: 16, At: 9}, {Addr: 24, At: 9}}},
	} {
		want := full(32, 8+8*len(c.v))
		want.Spots = c.spots
		for n, one := range c.v {
			want.Mem = with(want.Mem, 8+8*n, one)
		}
		if told, thrown := asm.Emit(s, c.v...); !same(told, want) || thrown != 0 {
			t.Errorf("%v: %+v, %d, not %+v", c.v, told, thrown, want)
		}
	}
	if told, thrown := asm.Emit(s); !same(told, s) || thrown != 0 {
		t.Errorf("none: %+v, %d", told, thrown)
	}
	three, _ := asm.Emit(s, []int{-5, 6, 5}...)
	if told, thrown := asm.Emit(s, -5, 6, 5); !same(told, three) || thrown != 0 {
		t.Errorf("three: %+v, %d", told, thrown)
	}
}

// TestEmitThrown has something thrown by the first, by one in the middle, and by the last of some cells: a zero state, and the very numbers (P10.1; R1).
func TestEmitThrown(t *testing.T) {
	for _, c := range []struct {
		many, here, cells, thrown int
		what                      string
	}{
		{24, 0, 3, 0, "just as many as there is room for"},
		{24, 0, 4, -8, "the last one"}, {24, 8, 4, -8, "one in the middle"}, {24, 24, 4, -8, "the first one"}, {24, 16, 2, -8, "the second of two"},
		{24, 24, 1, -8, "the only one"}, {23, 0, 3, -8, "the last one, a byte too few"}, {30, 16, 2, -8, "the last one, two bytes too few"},
		{24, 4, 1, -23, "no multiple of 8"}, {24, 4, 3, -23, "no multiple of 8, the first one"}, {24, 17, 3, -8, "no multiple of 8, and full"},
		{24, -8, 1, -9, "below 0"}, {24, -8, 3, -9, "below 0, the first one"}, {24, least, 2, -9, "the least integer"}, {24, greatest, 2, -8, "the greatest integer"},
		{0, 0, 1, -8, "no memory"}, {0, -8, 1, -9, "no memory, below 0"}, {0, 0, 0, 0, "none, of no memory"},
		{24, 24, 0, 0, "none, where it is full"}, {24, 4, 0, 0, "none, at no multiple of 8"}, {24, least, 0, 0, "none, at the least integer"}, {24, greatest, 0, 0, "none, at the greatest integer"},
	} {
		v := values[:c.cells]
		told, thrown := asm.Emit(full(c.many, c.here), v...)
		want := api.State{}
		if c.thrown == 0 {
			want, _ = emitted(full(c.many, c.here), v)
		}
		if !same(told, want) || thrown != c.thrown {
			t.Errorf("%s: %+v, %d", c.what, told, thrown)
		}
	}
}

// TestEmitAll has up to five cells at all places in and around memories of up to 40 bytes: only Mem, Here and Spots change, in what is told alone (P10.1; R3, R7).
func TestEmitAll(t *testing.T) {
	for many := range 41 {
		for _, here := range addresses(many) {
			for cells := range 6 {
				s, v := full(many, here), slices.Clone(values[:cells])
				told, thrown := asm.Emit(s, v...)
				if want, code := emitted(full(many, here), v); !same(told, want) || thrown != code {
					t.Fatalf("%d cells at %d of %d bytes: %+v, %d, not %+v, %d", cells, here, many, told, thrown, want, code)
				}
				if !sameRoom(s, full(many, here)) || !slices.Equal(v, values[:cells]) {
					t.Fatalf("%d cells at %d of %d bytes: handed in, it is %+v now, and %v", cells, here, many, s, v)
				}
			}
		}
	}
}

// lists are all lists of up to so many spots, in every order, those of the same address among them.
func lists(addrs []int, most int) [][]api.Spot {
	all := [][]api.Spot{nil}
	for from := 0; len(all[from]) < most; from++ {
		for _, addr := range addrs {
			all = append(all, append(slices.Clone(all[from]), api.Spot{Addr: addr, At: 100 + len(all[from])}))
		}
	}
	return all
}

// TestEmitSpots has Spots below, at and above Here, in every order: those below stay, in their order, and what was handed in stays, with what lies behind its end (P10.1; R3).
func TestEmitSpots(t *testing.T) {
	addrs := []int{least, -1, 0, 8, 15, 16, 17, 24, 32, greatest}
	for _, spots := range lists(addrs, 4) {
		for cells := range 4 {
			s := spotted(40, 16, spots)
			told, thrown := asm.Emit(s, values[:cells]...)
			if want, _ := emitted(spotted(40, 16, spots), values[:cells]); !same(told, want) || thrown != 0 {
				t.Fatalf("%d cells, of %v: %v, %d, not %v", cells, spots, told.Spots, thrown, want.Spots)
			}
			if !sameRoom(s, spotted(40, 16, spots)) {
				t.Fatalf("%d cells, of %v: handed in, they are %v now", cells, spots, whole(s.Spots))
			}
		}
	}
}

// TestEmitTok has tokens at all kinds of places: it is Tok that a spot tells, not At (P10.1).
func TestEmitTok(t *testing.T) {
	for _, tok := range []int{0, 1, -1, 4096, least, greatest} {
		s := api.State{Mem: filled(32), Here: 8, Tok: tok, At: 77}
		want := []api.Spot{{Addr: 8, At: tok}, {Addr: 16, At: tok}}
		if told, thrown := asm.Emit(s, 5, 6); !slices.Equal(told.Spots, want) || thrown != 0 {
			t.Errorf("%d: %v, %d", tok, told.Spots, thrown)
		}
	}
}

// TestEmitCells lays all kinds of cells: what they are makes no difference, and what is told of one is told of all, one by one (P10.1).
func TestEmitCells(t *testing.T) {
	for _, first := range values {
		for _, second := range values {
			both, thrown := asm.Emit(full(40, 8), first, second)
			if want, _ := emitted(full(40, 8), []int{first, second}); !same(both, want) || thrown != 0 {
				t.Errorf("%d and %d: %+v, %d", first, second, both, thrown)
			}
			one, _ := asm.Emit(full(40, 8), first)
			if two, thrown := asm.Emit(one, second); !same(two, both) || thrown != 0 {
				t.Errorf("%d, then %d: %+v, %d", first, second, two, thrown)
			}
		}
	}
}

// TestCommaAndPatchTellNoSpot holds that only Emit lays spots (P10.1; R7).
func TestCommaAndPatchTellNoSpot(t *testing.T) {
	spots := []api.Spot{{Addr: 24, At: 1}, {Addr: 16, At: 2}, {Addr: 0, At: 3}}
	for name, of := range map[string]func(api.State) (api.State, int){
		"comma": func(s api.State) (api.State, int) { return asm.Comma(s, 5) },
		"patch": func(s api.State) (api.State, int) { return asm.Patch(s, 16, 5) },
	} {
		if told, thrown := of(spotted(40, 16, spots)); !slices.Equal(told.Spots, spots) || thrown != 0 {
			t.Errorf("%s: %v, %d", name, told.Spots, thrown)
		}
	}
}
