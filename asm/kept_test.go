package asm_test

import (
	"bytes"
	"slices"
	"testing"

	"nostos/api"
	"nostos/asm"
)

// spoil writes into memory and the spots that are told, and into the room behind both.
func spoil(s api.State) {
	for at := range whole(s.Mem) {
		whole(s.Mem)[at]++
	}
	for at := range whole(s.Spots) {
		whole(s.Spots)[at].Addr++
	}
}

// TestOwnMemory writes into what was made anew: nothing of it is to be seen in what was handed in (P10.1; R3).
func TestOwnMemory(t *testing.T) {
	s := full(40, 8)
	told, _ := asm.Emit(s, 1, 2)
	spoil(told)
	for _, of := range []func() (api.State, int){
		func() (api.State, int) { return asm.Comma(s, 1) },
		func() (api.State, int) { return asm.Patch(s, 16, 1) },
	} {
		told, _ := of()
		for at := range whole(told.Mem) {
			whole(told.Mem)[at]++
		}
	}
	if !sameRoom(s, full(40, 8)) {
		t.Errorf("%+v", s)
	}
}

// TestForks goes on from one state in two ways, and from each state that was told: none of these is changed by what is laid later (R3).
func TestForks(t *testing.T) {
	var all, was []api.State
	keep := func(s api.State, thrown int) api.State {
		if thrown != 0 {
			t.Fatalf("%d", thrown)
		}
		all = append(all, s)
		s.Mem, s.Spots = bytes.Clone(s.Mem), slices.Clone(s.Spots)
		was = append(was, s)
		return all[len(all)-1]
	}
	s := keep(full(160, 16), 0)
	for n := range 8 {
		// A state that stays behind, with the next spot, and more of them, where the other one's come.
		other := s
		other.Tok = 1000 + n
		keep(asm.Emit(other, -n, -n-1, -n-2))
		keep(asm.Emit(other, -n))
		next := keep(asm.Emit(s, n))
		keep(asm.Emit(s, n, n+1))
		keep(asm.Comma(s, n*7))
		keep(asm.Patch(s, 8*n, n*9))
		s = keep(asm.Emit(next, n+100))
	}
	for n := range all {
		if !same(all[n], was[n]) {
			t.Errorf("the state %d: %+v, not %+v", n, all[n], was[n])
		}
	}
}

// TestRewound lays code where some was laid already, as with a word that is taken back: spots from there on go (P10.1).
func TestRewound(t *testing.T) {
	s, _ := asm.Emit(api.State{Mem: filled(64), Here: 8, Tok: 1}, 1, 2, 3, 4)
	s.Here, s.Tok = 16, 50
	s, thrown := asm.Emit(s, 5)
	if want := []api.Spot{{Addr: 8, At: 1}, {Addr: 16, At: 50}}; !slices.Equal(s.Spots, want) || s.Here != 24 || thrown != 0 {
		t.Errorf("%v, %d, %d", s.Spots, s.Here, thrown)
	}
}

// TestFetchKeeps holds that memory that is read stays as it is (R3).
func TestFetchKeeps(t *testing.T) {
	mem, was := cells(24, 10, 9, 2, 5), cells(24, 10, 9, 2, 5)
	for _, at := range addresses(len(mem)) {
		asm.Fetch(mem, at)
	}
	if !bytes.Equal(whole(mem), whole(was)) {
		t.Errorf("%v", whole(mem))
	}
}

// TestSameAgain does each call twice, with others between: nothing is kept from call to call (R4).
func TestSameAgain(t *testing.T) {
	once, code := asm.Emit(full(40, 8), 2, 5)
	asm.Emit(full(40, 0), 1, 1, 1, 1, 1, 1, 1)
	asm.Comma(full(8, 0), 3)
	asm.Patch(full(8, 0), 1, 3)
	asm.Fetch(filled(24), 0)
	if again, thrown := asm.Emit(full(40, 8), 2, 5); !same(again, once) || thrown != code {
		t.Errorf("%+v, then %+v", once, again)
	}
	if first, again := fetch(once.Mem, 8), fetch(once.Mem, 8); first != again || again != (fetched{2, 5, 24, 0}) {
		t.Errorf("%+v, then %+v", first, again)
	}
}

// TestZeroState has states without anything (P1, P10.1).
func TestZeroState(t *testing.T) {
	if told, thrown := asm.Emit(api.State{}); !same(told, api.State{}) || thrown != 0 {
		t.Errorf("none: %+v, %d", told, thrown)
	}
	if told, thrown := asm.Emit(api.State{}, 1); !same(told, api.State{}) || thrown != api.Full {
		t.Errorf("one: %+v, %d", told, thrown)
	}
	if told, thrown := asm.Patch(api.State{}, 0, 1); !same(told, api.State{}) || thrown != api.Address {
		t.Errorf("patch: %+v, %d", told, thrown)
	}
}

// TestGreatest fills the greatest memory that a machine has, by one call, and fetches all of it (P10.1 to P10.3).
func TestGreatest(t *testing.T) {
	v := make([]int, (api.MaxSize-api.First)/api.Cell)
	for n := range v {
		v[n] = 138 + n
	}
	s, thrown := asm.Emit(api.State{Mem: make([]byte, api.MaxSize), Here: api.First, Tok: 3}, v...)
	if thrown != 0 || s.Here != api.MaxSize || len(s.Spots) != len(v) {
		t.Fatalf("%d, %d, %d spots", thrown, s.Here, len(s.Spots))
	}
	at := api.First
	for n, want := range v {
		if told := fetch(s.Mem, at); told != (fetched{want, 0, at + 8, 0}) {
			t.Fatalf("at %d: %+v", at, told)
		}
		if s.Spots[n] != (api.Spot{Addr: at, At: 3}) {
			t.Fatalf("at %d: %v", at, s.Spots[n])
		}
		at += 8
	}
	if _, thrown := asm.Emit(s, 1); thrown != api.Full {
		t.Errorf("one more: %d", thrown)
	}
	if told := fetch(s.Mem, at); told != (fetched{thrown: api.Address}) {
		t.Errorf("at the end: %+v", told)
	}
}
