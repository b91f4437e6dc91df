package flow_test

import (
	"bytes"
	"slices"
	"testing"

	"nostos/api"
	"nostos/flow"
)

// tops are control stacks with what each word wants on top.
func tops(op int) []int {
	switch op {
	case 99, 100:
		return []int{7, 3, 16, 1, 8}
	case 102, 103, 104:
		return []int{7, 3, 16, 2, 8}
	case 105:
		return []int{7, 3, 16, 1, 24, 2, 8}
	case 107, 108:
		return []int{7, 1, 16, 3, 8}
	}
	return []int{7, 3, 16}
}

// TestBehindTheEnd holds that nothing is written behind the ends of lists that are pieces of greater ones (P11.1; R3).
func TestBehindTheEnd(t *testing.T) {
	for _, op := range numbers {
		for cut := range len(tops(op)) + 1 {
			for _, here := range []int{32, 64} {
				made := func() api.State {
					s := full(72, here, tops(op)...)
					s.Ctl, s.Mem, s.Spots, s.Words = s.Ctl[:cut], s.Mem[:64], s.Spots[:2], s.Words[1:2]
					return s
				}
				check(t, made, op)
			}
		}
	}
}

// kept is a state, and what it was, in memory of its own.
type kept struct{ s, was api.State }

// keep is a state with a copy of it.
func keep(s api.State) kept {
	was := s
	was.Mem, was.Data, was.Ret, was.Ctl = bytes.Clone(s.Mem), slices.Clone(s.Data), slices.Clone(s.Ret), slices.Clone(s.Ctl)
	was.Words, was.Spots, was.Out = slices.Clone(s.Words), slices.Clone(s.Spots), bytes.Clone(s.Out)
	return kept{s, was}
}

// TestForks goes on from each state that is told by each word, some words on: none that was told before is changed by what is told later (R3).
func TestForks(t *testing.T) {
	all := []kept{keep(full(512, 256, 2, 256, 1, 8))}
	for from, level := 0, 0; level < 4; level++ {
		upto := len(all)
		for ; from < upto; from++ {
			for _, op := range numbers {
				if told, thrown, _ := flow.Do(all[from].s, op); thrown == 0 {
					all = append(all, keep(told))
				}
			}
		}
	}
	for n, k := range all {
		if !same(k.s, k.was) {
			t.Fatalf("the state %d: %+v, not %+v", n, k.s, k.was)
		}
	}
	if len(all) < 500 {
		t.Errorf("no more than %d states", len(all))
	}
}

// TestOwnControlStack writes into the control stack that is told, and into the room behind it: nothing of it is to be seen in what was handed in (R3).
func TestOwnControlStack(t *testing.T) {
	for _, op := range numbers {
		s := full(64, 32, tops(op)...)
		told, _, _ := flow.Do(s, op)
		for n := range whole(told.Ctl) {
			whole(told.Ctl)[n]++
		}
		if !sameRoom(s, full(64, 32, tops(op)...)) {
			t.Errorf("%d: %+v", op, s)
		}
	}
}

// TestSameAgain does each word twice, with all others, and some that throw, between: nothing is kept from call to call (R4).
func TestSameAgain(t *testing.T) {
	for _, op := range numbers {
		once, code, _ := flow.Do(full(64, 32, tops(op)...), op)
		for _, other := range numbers {
			flow.Do(full(64, 16, tops(other)...), other)
			flow.Do(full(64, 16), other)
			flow.Do(full(64, 64, tops(other)...), other)
		}
		if again, thrown, is := flow.Do(full(64, 32, tops(op)...), op); !same(again, once) || thrown != code || thrown != 0 || !is {
			t.Errorf("%d: %+v, then %+v", op, once, again)
		}
	}
}

// TestNilAndEmpty has lists that are nil, and such that are empty: they are the same (R2).
func TestNilAndEmpty(t *testing.T) {
	for _, op := range numbers {
		for _, here := range []int{0, 8, 16, -8} {
			none := api.State{Mem: filled(16), Here: here, Words: []api.Word{{Hid: true, Code: 256}}}
			empty := none
			empty.Data, empty.Ret, empty.Ctl, empty.Spots, empty.Out = []int{}, []api.Slot{}, []int{}, []api.Spot{}, []byte{}
			a, code, _ := flow.Do(none, op)
			if b, thrown, is := flow.Do(empty, op); !same(a, b) || thrown != code || !is {
				t.Errorf("%d: %+v, %d, and %+v, %d", op, a, code, b, thrown)
			}
		}
	}
}
