package defs_test

import (
	"bytes"
	"slices"
	"strings"
	"testing"

	"nostos/api"
	"nostos/asm"
	"nostos/defs"
	"nostos/source"
)

// run reads a source to its end: what is found is emitted, where it is to be compiled, and done otherwise.
func run(t *testing.T, s api.State, x api.Setup) api.State {
	t.Helper()
	for {
		word, begin, end := source.Token(x.Source, s.At)
		if word == "" {
			return s
		}
		s.Tok, s.At = begin, end
		code, now, is := defs.Found(s, word)
		told, thrown, done := api.State{}, 0, is
		if s.Comp && !now {
			told, thrown = asm.Emit(s, code)
		} else {
			told, thrown, done = defs.Do(s, x, code)
		}
		if thrown != 0 || !done {
			t.Fatalf("%q, at %d: %d, %v", word, begin, thrown, done)
		}
		s = told
	}
}

// laidCells are the cells from 256 on, up to where the next thing is laid.
func laidCells(s api.State) []int {
	var l []int
	for at := 256; at < s.Here; at += 8 {
		v := 0
		for n := 7; n >= 0; n-- {
			v = v<<8 | int(s.Mem[at+n])
		}
		l = append(l, v)
	}
	return l
}

// TestSourceInARow reads sources with words that are made, found, and made again, and has the words and the code that are there then (P12.2, P12.3).
func TestSourceInARow(t *testing.T) {
	for _, c := range []struct {
		source string
		data   []int
		words  []api.Word
		code   []int
		then   []int
		out    string
	}{
		{": sq dup * ; : cube dup sq * ;", nil, []api.Word{{Name: "SQ", Code: 256}, {Name: "CUBE", Code: 280}}, []int{13, 30, 1, 13, 256, 30, 1}, nil, ""},
		{": a ; : a a ; : A a a ;", nil, []api.Word{{Name: "A", Code: 256}, {Name: "A", Code: 264}, {Name: "A", Code: 280}}, []int{1, 256, 1, 264, 264, 1}, nil, ""},
		{": dup dup ; ' dup ' DUP", nil, []api.Word{{Name: "DUP", Code: 256}}, []int{13, 1}, []int{256, 256}, ""},
		{": a [char] é ; immediate : b postpone a postpone dup postpone if ; ' b", nil, []api.Word{{Name: "A", Code: 256, Now: true}, {Name: "B", Code: 280}}, []int{2, 195, 1, 256, 2, 13, 12, 98, 1}, []int{280}, ""},
		{"constant x constant x : y x [ ' x ] literal ['] x ; ' y", []int{5, 6}, []api.Word{{Name: "X", Code: 256}, {Name: "X", Code: 280}, {Name: "Y", Code: 304}}, []int{2, 6, 1, 2, 5, 1, 280, 2, 280, 2, 280, 1}, []int{304}, ""},
		{"variable v create c marker m ' m ' c ' v", nil, []api.Word{{Name: "V", Code: 256}, {Name: "C", Code: 280}, {Name: "M", Code: 296}}, []int{8, 0, 0, 8, 0, 11, 2}, []int{296, 280, 256}, ""},
		{": k create does> ; ( : not ; ) : l \\ : not\n k ; .\" it is \" ] [ .\" so\"", nil, []api.Word{{Name: "K", Code: 256}, {Name: "L", Code: 280}}, []int{115, 9, 1, 256, 1}, nil, "it is so"},
		{": say .\" 12345678\" .\" \" .\" a\" ;", nil, []api.Word{{Name: "SAY", Code: 256}}, []int{10, 8, 0x3837363534333231, 10, 0, 10, 1, 97, 1}, nil, ""},
		{"marker a marker a ' a", nil, []api.Word{{Name: "A", Code: 256}, {Name: "A", Code: 272}}, []int{11, 0, 11, 1}, []int{272}, ""},
	} {
		x := api.Setup{Source: c.source, Depth: 4, Room: 8}
		s := run(t, api.State{Mem: make([]byte, 512), Here: 256, Data: c.data}, x)
		if !slices.Equal(s.Words, c.words) || !slices.Equal(laidCells(s), c.code) || !slices.Equal(s.Data, c.then) || string(s.Out) != c.out || s.Comp {
			t.Errorf("%q: %v, %v, %v, %q, %v", c.source, s.Words, laidCells(s), s.Data, s.Out, s.Comp)
		}
	}
}

// TestFoundThen has words that are made by each word that makes one: it is found by its name, however it is spelt, as soon as it isn't hidden, and the one that had that name before isn't any more (P12.3).
func TestFoundThen(t *testing.T) {
	for _, op := range []int{110, 113, 114, 115, 117} {
		for _, name := range []string{"x", "sq", "dup", "If", "(lit)", "é", "7", strings.Repeat("n", 31)} {
			for _, here := range []int{256, 257, 303} {
				s := full(512, here, 0)
				s.Ctl = nil
				before, nowBefore, wasBefore := defs.Found(s, name)
				s, thrown, _ := defs.Do(s, setup(" "+name+" more"), op)
				if thrown != 0 {
					t.Fatalf("%d %q: %d", op, name, thrown)
				}
				if op == 110 {
					if code, now, is := defs.Found(s, name); code != before || now != nowBefore || is != wasBefore {
						t.Errorf(": %q, not ended: %d, %v, %v", name, code, now, is)
					}
					s, _, _ = defs.Do(s, setup(""), 111)
				}
				for _, spelt := range []string{name, strings.ToLower(name), capitals(name)} {
					if code, now, is := defs.Found(s, spelt); code != up(here) || now || !is {
						if capitals(spelt) == capitals(name) {
							t.Errorf("%d %q: %d, %v, %v", op, spelt, code, now, is)
						}
					}
				}
				s, _, _ = defs.Do(s, setup(""), 112)
				if code, now, is := defs.Found(s, name); code != up(here) || !now || !is {
					t.Errorf("%d %q, immediate: %d, %v, %v", op, name, code, now, is)
				}
			}
		}
	}
}

// TestSaysNothing holds that no word but ." says anything, and that none takes, or gives, more than one value (P12.3).
func TestSaysNothing(t *testing.T) {
	for _, text := range sources() {
		for at := range min(len(text), 5) + 1 {
			for _, op := range numbers {
				for _, comp := range []bool{false, true} {
					for _, ctl := range [][]int{nil, {7}} {
						s := full(128, 64, at)
						s.Comp, s.Ctl = comp, ctl
						told, thrown, _ := defs.Do(s, setup(text), op)
						if thrown != 0 {
							continue
						}
						if (op != 129 || comp) && !bytes.Equal(told.Out, s.Out) {
							t.Errorf("%d of %q, from %d on: %q is said", op, text, at, told.Out)
						}
						many := len(told.Data)
						if many < 1 || many > 3 || !slices.Equal(told.Data[:min(many, 2)], s.Data[:min(many, 2)]) {
							t.Errorf("%d of %q, from %d on: %v", op, text, at, told.Data)
						}
					}
				}
			}
		}
	}
}

// kept is a state, and what it was, in memory of its own.
type kept struct{ s, was api.State }

// keep is a state with a copy of it, with what lies behind the ends of its lists.
func keep(s api.State) kept {
	was := s
	was.Mem, was.Data, was.Ret, was.Ctl = copied(s.Mem), copied(s.Data), copied(s.Ret), copied(s.Ctl)
	was.Words, was.Spots, was.Out = copied(s.Words), copied(s.Spots), copied(s.Out)
	return kept{s, was}
}

// copied is a list in memory of its own.
func copied[T any](l []T) []T {
	return append(make([]T, 0, len(l)), l...)
}

// TestForks goes on from each state that is told by each word, some words on: none that was told before is changed by what is told later (R3).
func TestForks(t *testing.T) {
	all := []kept{keep(full(512, 256, 0))}
	all[0].s.Ctl = nil
	all[0] = keep(all[0].s)
	for from, level := 0, 0; level < 3; level++ {
		upto := len(all)
		for ; from < upto; from++ {
			for _, op := range numbers {
				if told, thrown, _ := defs.Do(all[from].s, setup(" dup sq dup\" ) sq\n dup sq"), op); thrown == 0 {
					all = append(all, keep(told))
				}
			}
		}
	}
	for n, k := range all {
		if !same(k.s, k.was) {
			t.Fatalf("the state %d: %+v, not %+v", n, k.s, k.was)
		}
	}
	if len(all) < 2000 {
		t.Errorf("no more than %d states", len(all))
	}
}

// TestBehindTheEnd holds that nothing is written behind the ends of lists that are pieces of greater ones (P12.2; R3).
func TestBehindTheEnd(t *testing.T) {
	for _, op := range numbers {
		for cut := range 4 {
			for _, comp := range []bool{false, true} {
				made := func() api.State {
					s := full(128, 32, 0)
					s.Mem, s.Words, s.Spots, s.Data, s.Out, s.Ctl, s.Comp = s.Mem[:96], s.Words[:cut], s.Spots[:cut], s.Data[:min(cut, 2)], s.Out[:cut], s.Ctl[:0], comp
					return s
				}
				check(t, made, setup(" dup\" x"), op)
				hid := func() api.State {
					s := made()
					s.Words = whole(s.Words)[:4]
					return s
				}
				check(t, hid, setup(" sq\" x"), op)
			}
		}
	}
}

// TestSameAgain does each word twice, with all others, and some that throw, between: nothing is kept from call to call (R4).
func TestSameAgain(t *testing.T) {
	made := func() api.State {
		s := full(128, 64, 0)
		s.Ctl = nil
		return s
	}
	for _, op := range numbers {
		once, code, _ := defs.Do(made(), setup(" dup\""), op)
		found, now, is := defs.Found(made(), "sq")
		for _, other := range numbers {
			defs.Do(made(), setup(" sq\" x"), other)
			defs.Do(full(64, 64, 0), setup(""), other)
		}
		if again, thrown, is := defs.Do(made(), setup(" dup\""), op); !same(again, once) || thrown != code || !is {
			t.Errorf("%d: %+v, then %+v", op, once, again)
		}
		if again, nowAgain, isAgain := defs.Found(made(), "sq"); again != found || nowAgain != now || isAgain != is {
			t.Errorf("found: %d, then %d", found, again)
		}
	}
}

// TestNilAndEmpty has lists that are nil, and such that are empty: they are the same (R2).
func TestNilAndEmpty(t *testing.T) {
	for _, op := range numbers {
		for _, many := range []int{0, 64} {
			for _, text := range []string{"", " dup", "dup\" x"} {
				none := api.State{Here: 0}
				empty := api.State{Mem: []byte{}, Data: []int{}, Ret: []api.Slot{}, Ctl: []int{}, Words: []api.Word{}, Spots: []api.Spot{}, Out: []byte{}}
				if many > 0 {
					none.Mem, empty.Mem = filled(many), filled(many)
				}
				x, y := setup(text), setup(text)
				x.Input, y.Input = nil, []byte{}
				a, code, _ := defs.Do(none, x, op)
				if b, thrown, is := defs.Do(empty, y, op); !same(a, b) || thrown != code || !is {
					t.Errorf("%d: %+v, %d, and %+v, %d", op, a, code, b, thrown)
				}
			}
		}
	}
}

// TestOfTheSetup holds that no word asks for the input, or for the size of memory that a setup tells (P12.2).
func TestOfTheSetup(t *testing.T) {
	for _, op := range numbers {
		made := func() api.State { return full(64, 32, 0) }
		for _, size := range []int{least, 0, 32, greatest} {
			x := setup(" dup\" x")
			x.Size, x.Input = size, []byte("other")
			check(t, made, x, op)
		}
	}
}

// mixed tells numbers that are mixed well, but the same ones each time, below many each.
func mixed(seed uint64) func(many int) int {
	return func(many int) int {
		seed = seed*6364136223846793005 + 1442695040888963407
		return int((seed >> 33) % uint64(many))
	}
}

// TestRows does words in rows of some hundred, mixed, on sources that are mixed, too: each of them tells what the table says, whatever there was before (P12.2).
func TestRows(t *testing.T) {
	pick := mixed(12)
	pieces := append(strings.Fields("x y sq dup if ; ) \" é 7 (lit) ' exit"), " ", "\n", "  ", "\"", ")")
	for range 60 {
		var text strings.Builder
		for range 300 {
			text.WriteString(pieces[pick(len(pieces))] + strings.Repeat(" ", pick(2)))
		}
		x := api.Setup{Source: text.String(), Depth: 1 + pick(6), Room: pick(600)}
		s := api.State{Mem: make([]byte, 512+8*pick(200)), Here: 256}
		for range 120 {
			op := numbers[pick(len(numbers))]
			s.Tok = s.At
			check(t, func() api.State { return s }, x, op)
			if told, thrown, _ := defs.Do(s, x, op); thrown == 0 {
				s = told
			}
		}
	}
}
