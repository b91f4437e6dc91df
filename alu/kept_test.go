package alu_test

import (
	"slices"
	"testing"

	"nostos/alu"
	"nostos/api"
	"nostos/ops"
)

// TestBelow has each word with up to eight values below those that it takes: they stay, and make no difference to what it leaves (P9.3).
func TestBelow(t *testing.T) {
	for _, r := range table {
		if r.name == "PICK" || r.name == "ROLL" || r.name == "DEPTH" {
			continue
		}
		for _, v := range tuples(l{0, 1, -1, bits(2.5)}, r.takes) {
			alone, code, _ := alu.Do(r.op(), v, 16)
			for many := range 9 {
				below := filled(many)
				want := slices.Concat(below, alone)
				if code != 0 {
					want = nil
				}
				then, thrown, is := alu.Do(r.op(), slices.Concat(below, v), 16)
				if !slices.Equal(then, want) || thrown != code || !is {
					t.Errorf("%s of %v on %v: %v, %d, %v, not %v, %d", r.name, v, below, then, thrown, is, want, code)
				}
			}
		}
	}
}

// TestBelowThoseThatAsk has the words that ask for values below: all of these stay, but the one that is rolled (P9.3).
func TestBelowThoseThatAsk(t *testing.T) {
	for many := range 9 {
		below := filled(many)
		if then, _, _ := alu.Do(ops.Find("DEPTH"), below, 16); !slices.Equal(then, append(filled(many), many)) {
			t.Errorf("DEPTH of %v: %v", below, then)
		}
		for n := range many {
			v := below[many-1-n]
			if then, _, _ := alu.Do(ops.Find("PICK"), append(filled(many), n), 16); !slices.Equal(then, append(filled(many), v)) {
				t.Errorf("%d, of %v picked: %v", n, below, then)
			}
			want := append(slices.Delete(filled(many), many-1-n, many-n), v)
			if then, _, _ := alu.Do(ops.Find("ROLL"), append(filled(many), n), 16); !slices.Equal(then, want) {
				t.Errorf("%d, of %v rolled: %v", n, below, then)
			}
		}
	}
}

// stacks are some of up to eight values, their tops numbers that PICK and ROLL reach, and that nothing is divided by, too.
func stacks() [][]int {
	var all [][]int
	for many := range 9 {
		for _, top := range []int{0, 1, 3, -5} {
			data := filled(many)
			if many > 0 {
				data[many-1] = top
			}
			all = append(all, data)
		}
	}
	return all
}

// TestOwnMemory writes into all that is told, and into the room behind it: nothing of it is to be seen in what was handed in (P9.1).
func TestOwnMemory(t *testing.T) {
	for _, r := range table {
		for _, data := range stacks() {
			handed := roomy(data)
			then, _, _ := alu.Do(r.op(), handed, 16)
			for at := range whole(then) {
				whole(then)[at]++
			}
			if !slices.Equal(whole(handed), whole(roomy(data))) {
				t.Errorf("%s of %v: %v", r.name, data, whole(handed))
			}
		}
	}
}

// TestOnAndOn does each word of the table with each stack that a word told: that one stays, with what lies behind its end (P9.1).
func TestOnAndOn(t *testing.T) {
	for _, first := range table {
		told, _, _ := alu.Do(first.op(), l{11, -22, 33, -44, 1}, 16)
		was := slices.Clone(whole(told))
		for _, second := range table {
			alu.Do(second.op(), told, 16)
			if !slices.Equal(whole(told), was) {
				t.Fatalf("%s, then %s: %v, not %v", first.name, second.name, whole(told), was)
			}
		}
	}
}

// TestSameAgain does each word twice, with others between: nothing is kept from call to call (R4).
func TestSameAgain(t *testing.T) {
	for _, r := range table {
		for _, data := range stacks() {
			then, code, _ := alu.Do(r.op(), data, 16)
			alu.Do(r.op(), nil, 0)
			alu.Do(ops.Find("/"), l{1, 0}, 16)
			alu.Do(ops.Find("2DUP"), l{5, 6}, 16)
			if again, thrown, _ := alu.Do(r.op(), data, 16); !slices.Equal(again, then) || thrown != code {
				t.Errorf("%s of %v: %v, %d, then %v, %d", r.name, data, then, code, again, thrown)
			}
		}
	}
}

// TestDeepest has each word at a machine's deepest stack, and at one that is just not as deep (P9.1 to P9.3).
func TestDeepest(t *testing.T) {
	for _, r := range table {
		for _, many := range []int{api.MaxDepth - 3, api.MaxDepth - 1, api.MaxDepth} {
			data := append(filled(many-1), 7)
			r.check(t, r.op(), data, api.MaxDepth)
		}
	}
}
