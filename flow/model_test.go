package flow_test

import (
	"slices"
	"testing"

	"nostos/api"
	"nostos/flow"
)

// row is a row of the chapter's table, but RECURSE's.
type row struct {
	name    string
	op      int
	wants   []int                              // kinds, from the top down
	comes   bool                               // whether a pair comes
	lays    func(addrs []int) []int            // of the addresses of the pairs it wants
	settles int                                // which of these pairs is settled, or -1
	leaves  func(addrs []int, at, c int) []int // what stands in place of these pairs, of Here, and of the cell that is laid, too
}

// rows are the table, written out once more.
var rows = []row{
	{"IF", 98, nil, true, of(4, 0), -1, func(_ []int, _, c int) []int { return []int{1, c} }},
	{"ELSE", 99, []int{1}, false, of(3, 0), 0, func(_ []int, _, c int) []int { return []int{1, c} }},
	{"THEN", 100, []int{1}, false, none, 0, gone},
	{"BEGIN", 101, nil, true, none, -1, func(_ []int, at, _ int) []int { return []int{2, at} }},
	{"AGAIN", 102, []int{2}, false, func(addrs []int) []int { return []int{3, addrs[0]} }, -1, gone},
	{"UNTIL", 103, []int{2}, false, func(addrs []int) []int { return []int{4, addrs[0]} }, -1, gone},
	{"WHILE", 104, []int{2}, true, of(4, 0), -1, func(addrs []int, _, c int) []int { return []int{1, c, 2, addrs[0]} }},
	{"REPEAT", 105, []int{2, 1}, false, func(addrs []int) []int { return []int{3, addrs[0]} }, 1, gone},
	{"DO", 106, nil, true, of(5, 0), -1, func(_ []int, _, c int) []int { return []int{3, c} }},
	{"LOOP", 107, []int{3}, false, func(addrs []int) []int { return []int{6, addrs[0] + 8} }, 0, gone},
	{"+LOOP", 108, []int{3}, false, func(addrs []int) []int { return []int{7, addrs[0] + 8} }, 0, gone},
}

func of(v ...int) func([]int) []int { return func([]int) []int { return v } }
func none([]int) []int              { return nil }
func gone([]int, int, int) []int    { return nil }

// thrownOfCell is what is thrown of a cell that is set, in so many bytes.
func thrownOfCell(length, at int) int {
	switch {
	case at < 0 || at > length-8:
		return api.Address
	case at&7 != 0:
		return api.Align
	}
	return 0
}

// emitted is what asm.Emit is to tell.
func emitted(s api.State, v []int) (api.State, int) {
	for _, one := range v {
		if s.Here > len(s.Mem)-8 {
			return api.State{}, api.Full
		}
		if code := thrownOfCell(len(s.Mem), s.Here); code != 0 {
			return api.State{}, code
		}
		s.Mem = with(s.Mem, s.Here, one)
		s.Spots = append(slices.DeleteFunc(slices.Clone(s.Spots), func(spot api.Spot) bool { return spot.Addr >= s.Here }), api.Spot{Addr: s.Here, At: s.Tok})
		s.Here += 8
	}
	return s, 0
}

// wanted are the addresses of the pairs that a word wants, from the top down, and what stands below them.
func (r row) wanted(ctl []int) (addrs, below []int, are bool) {
	for n, kind := range r.wants {
		top := len(ctl) - 2 - 2*n
		if top < 0 || ctl[top] != kind {
			return nil, nil, false
		}
		addrs = append(addrs, ctl[top+1])
	}
	return addrs, ctl[:len(ctl)-2*len(r.wants)], true
}

// meant is what Do is to tell of a word.
func (r row) meant(s api.State) (api.State, int) {
	addrs, below, are := r.wanted(s.Ctl)
	if !are {
		return api.State{}, api.Control
	}
	if r.comes && len(s.Ctl) > 126 {
		return api.State{}, api.Over
	}
	at := s.Here
	s, thrown := emitted(s, r.lays(addrs))
	if thrown != 0 {
		return api.State{}, thrown
	}
	if r.settles >= 0 {
		cell := addrs[r.settles]
		if code := thrownOfCell(len(s.Mem), cell); code != 0 {
			return api.State{}, code
		}
		s.Mem = with(s.Mem, cell, s.Here)
	}
	s.Ctl = slices.Concat(below, r.leaves(addrs, at, s.Here-8))
	return s, 0
}

// meantToRecurse is what Do is to tell of RECURSE.
func meantToRecurse(s api.State) (api.State, int) {
	if len(s.Words) == 0 || !s.Words[len(s.Words)-1].Hid {
		return api.State{}, api.Control
	}
	return emitted(s, []int{s.Words[len(s.Words)-1].Code})
}

// check holds what Do tells against what is meant, and what was handed in against the same made once more.
func check(t *testing.T, made func() api.State, op int) {
	t.Helper()
	want, code := meantToRecurse(made())
	for _, r := range rows {
		if r.op == op {
			want, code = r.meant(made())
		}
	}
	s := made()
	told, thrown, is := flow.Do(s, op)
	if !same(told, want) || thrown != code || !is {
		t.Fatalf("%d of %+v: %+v, %d, %v, not %+v, %d", op, s, told, thrown, is, want, code)
	}
	if !sameRoom(s, made()) {
		t.Fatalf("%d: handed in, it is %+v now, not %+v", op, s, made())
	}
}

// TestControlStacks has all control stacks of up to three pairs of all kinds, and of kinds that are none, with a single number below them, or none (P11.1).
func TestControlStacks(t *testing.T) {
	kinds := []int{1, 2, 3, 0, 4, -1, 1<<32 + 1, least, greatest}
	stacks := [][]int{nil}
	for from := 0; len(stacks[from]) < 6; from++ {
		for _, kind := range kinds {
			// Addresses that are three cells, and tell the places of their pairs.
			stacks = append(stacks, append(slices.Clone(stacks[from]), kind, 8+4*len(stacks[from])))
		}
	}
	for _, stack := range stacks {
		for _, single := range [][]int{nil, {1}, {2}, {3}} {
			for _, op := range numbers {
				check(t, func() api.State { return full(64, 32, slices.Concat(single, stack)...) }, op)
			}
		}
	}
}

// TestMissing has the very number that is thrown where the wanted pairs aren't on top (P11.1).
func TestMissing(t *testing.T) {
	for _, c := range []struct {
		op   int
		ctl  []int
		what string
	}{
		{100, nil, "THEN of nothing"}, {100, []int{8}, "THEN of a single number"}, {100, []int{1}, "THEN of a kind alone"}, {100, []int{2, 8}, "THEN of a begin"}, {100, []int{3, 8}, "THEN of a loop"},
		{100, []int{1, 8, 2, 8}, "THEN of an open one below a begin"}, {100, []int{8, 1}, "THEN of an address ahead of a kind"}, {100, []int{1, 8, 1}, "THEN of a pair, and a kind on top"},
		{99, nil, "ELSE of nothing"}, {99, []int{2, 8}, "ELSE of a begin"}, {99, []int{3, 8}, "ELSE of a loop"},
		{102, nil, "AGAIN of nothing"}, {102, []int{1, 8}, "AGAIN of an open one"}, {102, []int{3, 8}, "AGAIN of a loop"},
		{103, nil, "UNTIL of nothing"}, {103, []int{1, 8}, "UNTIL of an open one"}, {103, []int{3, 8}, "UNTIL of a loop"},
		{104, nil, "WHILE of nothing"}, {104, []int{1, 8}, "WHILE of an open one"}, {104, []int{3, 8}, "WHILE of a loop"},
		{105, nil, "REPEAT of nothing"}, {105, []int{2, 8}, "REPEAT of a begin alone"}, {105, []int{1, 8}, "REPEAT of an open one alone"}, {105, []int{2, 8, 1, 8}, "REPEAT of both, the other way round"},
		{105, []int{2, 8, 2, 8}, "REPEAT of two begins"}, {105, []int{1, 8, 1, 8}, "REPEAT of two open ones"}, {105, []int{3, 8, 2, 8}, "REPEAT of a begin above a loop"}, {105, []int{0, 8, 2, 8}, "REPEAT of a begin above no kind"},
		{105, []int{1, 2, 8}, "REPEAT of a begin above a single number"}, {105, []int{1, 8, 3, 8, 2, 8}, "REPEAT of an open one that isn't next"},
		{107, nil, "LOOP of nothing"}, {107, []int{1, 8}, "LOOP of an open one"}, {107, []int{2, 8}, "LOOP of a begin"},
		{108, nil, "+LOOP of nothing"}, {108, []int{1, 8}, "+LOOP of an open one"}, {108, []int{2, 8}, "+LOOP of a begin"},
	} {
		for _, here := range []int{32, 64, 4, -8} {
			if told, thrown, is := flow.Do(full(64, here, c.ctl...), c.op); thrown != -22 || !is || !same(told, api.State{}) {
				t.Errorf("%s, Here at %d: %+v, %d, %v", c.what, here, told, thrown, is)
			}
		}
	}
}

// TestDepths has control stacks of up to 140 numbers, and of many more, with each kind of pairs on top, where there is room for code, where there is none, and where Here is no cell's (P11.1).
func TestDepths(t *testing.T) {
	depths := []int{200, 255, 256, 1000}
	for depth := range 141 {
		depths = append(depths, depth)
	}
	for _, depth := range depths {
		for _, top := range [][]int{nil, {1, 8}, {2, 8}, {3, 8}, {1, 16, 2, 8}, {3, 16, 2, 8}} {
			if len(top) > depth {
				continue
			}
			below := make([]int, depth-len(top))
			for n := range below {
				below[n] = 1000 + n
			}
			for _, here := range []int{32, 48, 56, 64, 33, -8} {
				for _, op := range numbers {
					check(t, func() api.State { return full(64, here, slices.Concat(below, top)...) }, op)
				}
			}
		}
	}
}

// TestOver has the very number that is thrown where more than 128 would stand there then, ahead of what asm throws, and behind Control (P11.1).
func TestOver(t *testing.T) {
	for _, c := range []struct {
		op, depth, here, thrown int
		top                     []int
		what                    string
	}{
		{98, 126, 32, 0, nil, "IF, 128 then"}, {98, 127, 32, -3, nil, "IF, 129 then"}, {98, 128, 32, -3, nil, "IF, 130 then"}, {98, 126, 64, -8, nil, "IF, 128 then, and full"}, {98, 127, 64, -3, nil, "IF, 129 then, and full"}, {98, 128, -8, -3, nil, "IF, 130 then, below 0"},
		{101, 126, 32, 0, nil, "BEGIN, 128 then"}, {101, 127, 32, -3, nil, "BEGIN, 129 then"}, {101, 128, 32, -3, nil, "BEGIN, 130 then"}, {101, 126, 64, 0, nil, "BEGIN, 128 then, and full"},
		{106, 126, 32, 0, nil, "DO, 128 then"}, {106, 127, 32, -3, nil, "DO, 129 then"}, {106, 128, 32, -3, nil, "DO, 130 then"}, {106, 126, 64, -8, nil, "DO, 128 then, and full"}, {106, 127, 64, -3, nil, "DO, 129 then, and full"}, {106, 128, 4, -3, nil, "DO, 130 then, at no cell"},
		{104, 126, 32, 0, []int{2, 8}, "WHILE, 128 then"}, {104, 127, 32, -3, []int{2, 8}, "WHILE, 129 then"}, {104, 128, 32, -3, []int{2, 8}, "WHILE, 130 then"}, {104, 126, 64, -8, []int{2, 8}, "WHILE, 128 then, and full"}, {104, 127, 64, -3, []int{2, 8}, "WHILE, 129 then, and full"},
		{104, 128, 32, -22, []int{1, 8}, "WHILE of an open one, 130 then: Control"}, {104, 129, 64, -22, []int{3, 8}, "WHILE of a loop, 131 then, and full: Control"},
		{99, 128, 32, 0, []int{1, 8}, "ELSE, of which no pair comes"}, {99, 129, 32, 0, []int{1, 8}, "ELSE, of 129"}, {99, 128, 64, -8, []int{1, 8}, "ELSE, of 128, and full"}, {99, 128, 32, -22, []int{2, 8}, "ELSE of a begin"},
		{100, 130, 32, 0, []int{1, 8}, "THEN"}, {102, 130, 32, 0, []int{2, 8}, "AGAIN"}, {103, 130, 32, 0, []int{2, 8}, "UNTIL"}, {105, 140, 32, 0, []int{1, 16, 2, 8}, "REPEAT"}, {107, 130, 32, 0, []int{3, 8}, "LOOP"}, {108, 131, 32, 0, []int{3, 8}, "+LOOP"}, {109, 140, 32, 0, nil, "RECURSE"},
	} {
		ctl := append(make([]int, c.depth-len(c.top)), c.top...)
		told, thrown, is := flow.Do(full(64, c.here, ctl...), c.op)
		if thrown != c.thrown || !is || thrown != 0 && !same(told, api.State{}) || thrown == 0 && len(told.Out) != 3 {
			t.Errorf("%s: %+v, %d, %v", c.what, told, thrown, is)
		}
	}
}

// around are addresses in and around some bytes, and those at the ends of all cells.
func around(many int) []int {
	l := []int{
		least, least + 1, least + 7, least + 8, least + 16, -1 << 32, 1 << 32, 1<<32 + 8,
		greatest - 16, greatest - 15, greatest - 8, greatest - 7, greatest - 6, greatest - 1, greatest,
	}
	for at := -17; at < many+18; at++ {
		l = append(l, at)
	}
	return l
}

// TestPlaces has all Heres, and all addresses of pairs, in and around memories that end before, within and behind a cell (P11.1).
func TestPlaces(t *testing.T) {
	for _, many := range []int{0, 7, 8, 16, 17, 31, 40} {
		for _, here := range around(many) {
			for _, op := range []int{98, 101, 106, 109} {
				check(t, func() api.State { return full(many, here, 3, 8) }, op)
			}
			for _, addr := range around(many) {
				for _, c := range []struct {
					op  int
					ctl []int
				}{
					{99, []int{1, addr}}, {100, []int{1, addr}}, {102, []int{2, addr}}, {103, []int{2, addr}}, {104, []int{2, addr}},
					{105, []int{1, addr, 2, 8}}, {105, []int{1, 8, 2, addr}}, {107, []int{3, addr}}, {108, []int{3, addr}},
				} {
					check(t, func() api.State { return full(many, here, c.ctl...) }, c.op)
				}
			}
		}
	}
}

// TestThrownOfAsm has the very numbers that asm throws, the first one of those of the first thing done (P11.1).
func TestThrownOfAsm(t *testing.T) {
	for _, c := range []struct {
		op, here, thrown int
		ctl              []int
		what             string
	}{
		{98, 48, 0, nil, "IF, where two cells are left"}, {98, 56, -8, nil, "IF, full for the second one"}, {98, 64, -8, nil, "IF, full"}, {98, 12, -23, nil, "IF, at no cell"}, {98, -8, -9, nil, "IF, below 0"}, {98, 60, -8, nil, "IF, at no cell, and full"},
		{106, 56, -8, nil, "DO, full for the second one"}, {106, 12, -23, nil, "DO, at no cell"}, {106, least, -9, nil, "DO, at the least integer"}, {106, greatest, -8, nil, "DO, at the greatest integer"},
		{99, 56, -8, []int{1, -8}, "ELSE, full for the second one, ahead of an address below 0"}, {99, 32, -9, []int{1, -8}, "ELSE of an address below 0"}, {99, 32, -23, []int{1, 9}, "ELSE of no cell's address"}, {99, 12, -23, []int{1, -8}, "ELSE, at no cell, ahead of an address below 0"}, {99, 48, -9, []int{1, 64}, "ELSE of the end"},
		{100, 32, -9, []int{1, -8}, "THEN of an address below 0"}, {100, 32, -23, []int{1, 9}, "THEN of no cell's address"}, {100, 32, -9, []int{1, 57}, "THEN of no cell's address, and beyond"}, {100, 32, -9, []int{1, greatest}, "THEN of the greatest integer"}, {100, 32, -9, []int{1, least}, "THEN of the least integer"},
		{100, 64, 0, []int{1, 8}, "THEN, where nothing can be laid"}, {100, -5, 0, []int{1, 8}, "THEN, Here below 0, and no cell's"}, {100, greatest, 0, []int{1, 56}, "THEN, Here the greatest integer"},
		{101, 64, 0, nil, "BEGIN, where nothing can be laid"}, {101, -5, 0, nil, "BEGIN below 0"}, {101, greatest, 0, nil, "BEGIN at the greatest integer"},
		{102, 56, -8, []int{2, 8}, "AGAIN, full for the second one"}, {102, 32, 0, []int{2, -7}, "AGAIN of an address that is told alone"}, {103, 32, 0, []int{2, greatest}, "UNTIL of the greatest integer"}, {103, 56, -8, []int{2, 8}, "UNTIL, full for the second one"},
		{104, 32, 0, []int{2, least}, "WHILE of the least integer"}, {104, 56, -8, []int{2, 8}, "WHILE, full for the second one"},
		{105, 32, 0, []int{1, 8, 2, greatest}, "REPEAT of the greatest integer, that is told alone"}, {105, 32, -9, []int{1, greatest, 2, 8}, "REPEAT, the open one at the greatest integer"}, {105, 32, -23, []int{1, 9, 2, 8}, "REPEAT, the open one at no cell"}, {105, 56, -8, []int{1, 9, 2, 8}, "REPEAT, full ahead of the open one at no cell"},
		{107, 32, -9, []int{3, greatest}, "LOOP of the greatest integer"}, {107, 32, -9, []int{3, greatest - 7}, "LOOP of the greatest cell's address"}, {107, 32, -9, []int{3, -8}, "LOOP below 0: what it lays is 0"}, {107, 32, -23, []int{3, 9}, "LOOP of no cell's address"}, {107, 56, -8, []int{3, greatest}, "LOOP, full ahead of that"}, {107, 64, -8, []int{3, 8}, "LOOP, full"},
		{108, 32, -9, []int{3, greatest}, "+LOOP of the greatest integer"}, {108, 32, -9, []int{3, greatest - 7}, "+LOOP of the greatest cell's address"}, {108, 32, -23, []int{3, 9}, "+LOOP of no cell's address"}, {108, 56, -8, []int{3, greatest}, "+LOOP, full ahead of that"},
		{109, 56, 0, nil, "RECURSE, where one cell is left"}, {109, 64, -8, nil, "RECURSE, full"}, {109, 12, -23, nil, "RECURSE, at no cell"}, {109, -8, -9, nil, "RECURSE, below 0"},
	} {
		told, thrown, is := flow.Do(full(64, c.here, c.ctl...), c.op)
		if thrown != c.thrown || !is || thrown != 0 && !same(told, api.State{}) || thrown == 0 && len(told.Out) != 3 {
			t.Errorf("%s: %+v, %d, %v", c.what, told, thrown, is)
		}
	}
}

// TestSettledLast has pairs at the very cells that a word lays: what is settled is what stands there then (P11.1).
func TestSettledLast(t *testing.T) {
	for _, c := range []struct {
		op            int
		ctl           []int
		first, second int
	}{
		{99, []int{1, 32}, 48, 0}, {99, []int{1, 40}, 3, 48},
		{105, []int{1, 32, 2, 8}, 48, 8}, {105, []int{1, 40, 2, 8}, 3, 48},
		{107, []int{3, 32}, 48, 40}, {107, []int{3, 40}, 6, 48}, {108, []int{3, 32}, 48, 40}, {108, []int{3, 40}, 7, 48},
	} {
		told, thrown, _ := flow.Do(full(64, 32, c.ctl...), c.op)
		if thrown != 0 || cellAt(told.Mem, 32) != c.first || cellAt(told.Mem, 40) != c.second {
			t.Errorf("%d of %v: %d, %v", c.op, c.ctl, thrown, told.Mem)
		}
	}
}

// TestRecurse has no word, and words of which the last one is hidden or isn't (P11.1).
func TestRecurse(t *testing.T) {
	shown, hidden := api.Word{Name: "A", Code: 256}, api.Word{Name: "B", Code: 264, Hid: true}
	for _, c := range []struct {
		words  []api.Word
		laid   int
		thrown int
		what   string
	}{
		{nil, 0, -22, "no word"}, {[]api.Word{}, 0, -22, "an empty list"}, {[]api.Word{shown}, 0, -22, "one that isn't hidden"}, {[]api.Word{hidden, shown}, 0, -22, "the last one not hidden, the one ahead of it hidden"},
		{[]api.Word{hidden}, 264, 0, "one that is hidden"}, {[]api.Word{shown, hidden}, 264, 0, "the last one hidden"}, {[]api.Word{hidden, {Name: "B", Code: 272, Hid: true}}, 272, 0, "two hidden ones of a name"},
		{[]api.Word{{Code: 280, Hid: true, Now: true}}, 280, 0, "one without a name, done at once"}, {[]api.Word{{Name: "C", Now: true}}, 0, -22, "one that is done at once, and not hidden"},
		{[]api.Word{{Name: "C", Hid: true}}, 0, 0, "a code of 0"}, {[]api.Word{{Name: "C", Code: least, Hid: true}}, least, 0, "the least integer"}, {[]api.Word{{Name: "C", Code: greatest, Hid: true}}, greatest, 0, "the greatest integer"}, {[]api.Word{{Name: "C", Code: -7, Hid: true}}, -7, 0, "below 0"},
	} {
		for _, ctl := range [][]int{nil, {1, 8}, {5}} {
			s := full(64, 32, ctl...)
			s.Words = c.words
			want := api.State{}
			if c.thrown == 0 {
				want = full(64, 40, ctl...)
				want.Words, want.Mem, want.Spots = c.words, with(want.Mem, 32, c.laid), []api.Spot{{Addr: 0, At: 1}, {Addr: 32, At: 9}}
			}
			if told, thrown, is := flow.Do(s, 109); !same(told, want) || thrown != c.thrown || !is {
				t.Errorf("%s: %+v, %d, %v", c.what, told, thrown, is)
			}
			s.Here = 64
			if _, thrown, _ := flow.Do(s, 109); c.thrown == 0 && thrown != -8 || c.thrown != 0 && thrown != c.thrown {
				t.Errorf("%s, and full: %d", c.what, thrown)
			}
		}
	}
}
