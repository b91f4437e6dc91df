package flow_test

import (
	"slices"
	"strings"
	"testing"

	"nostos/api"
	"nostos/asm"
	"nostos/flow"
	"nostos/ops"
)

// self is the code of the word that is being made, in all of what is compiled here.
const self = 280

// form is words of control flow with room for others between them, at each of the numbers 0 and 1.
type form struct {
	text  string
	parts int
	// code is what stands there: of where it begins, and of what its parts are, of where these begin.
	code func(at int, part func(n, at int) []int) []int
}

// end is the address behind some code.
func end(at int, code []int) int {
	return at + 8*len(code)
}

// forms are all that the table's words make.
var forms = []form{
	{"IF 0 THEN", 1, func(at int, part func(n, at int) []int) []int {
		inside := part(0, at+16)
		return append([]int{4, end(at+16, inside)}, inside...)
	}},
	{"IF 0 ELSE 1 THEN", 2, func(at int, part func(n, at int) []int) []int {
		yes := part(0, at+16)
		other := end(at+16, yes) + 16
		no := part(1, other)
		return slices.Concat([]int{4, other}, yes, []int{3, end(other, no)}, no)
	}},
	{"BEGIN 0 AGAIN", 1, func(at int, part func(n, at int) []int) []int {
		return append(part(0, at), 3, at)
	}},
	{"BEGIN 0 UNTIL", 1, func(at int, part func(n, at int) []int) []int {
		return append(part(0, at), 4, at)
	}},
	{"BEGIN 0 WHILE 1 REPEAT", 2, func(at int, part func(n, at int) []int) []int {
		asked := part(0, at)
		done := part(1, end(at, asked)+16)
		return slices.Concat(asked, []int{4, end(at, asked) + 16 + 8*len(done) + 16}, done, []int{3, at})
	}},
	{"BEGIN 0 WHILE 1 UNTIL THEN", 2, func(at int, part func(n, at int) []int) []int {
		asked := part(0, at)
		done := part(1, end(at, asked)+16)
		return slices.Concat(asked, []int{4, end(at, asked) + 16 + 8*len(done) + 16}, done, []int{4, at})
	}},
	{"DO 0 LOOP", 1, func(at int, part func(n, at int) []int) []int {
		inside := part(0, at+16)
		return slices.Concat([]int{5, end(at+16, inside) + 16}, inside, []int{6, at + 16})
	}},
	{"DO 0 +LOOP", 1, func(at int, part func(n, at int) []int) []int {
		inside := part(0, at+16)
		return slices.Concat([]int{5, end(at+16, inside) + 16}, inside, []int{7, at + 16})
	}},
}

// program is a text of words, and what stands where it is compiled from an address on.
type program struct {
	text string
	code func(at int) []int
}

// leaves are programs without any other one in them.
var leaves = []program{
	{"", func(int) []int { return nil }},
	{"DUP", func(int) []int { return []int{13} }},
	{"RECURSE", func(int) []int { return []int{self} }},
}

// filledWith is a form with a program in each of its parts.
func (f form) filledWith(parts ...program) program {
	text := f.text
	for n, p := range parts {
		text = strings.Replace(text, string(rune('0'+n)), p.text, 1)
	}
	return program{text, func(at int) []int {
		return f.code(at, func(n, at int) []int { return parts[n].code(at) })
	}}
}

// behind is a program behind another one.
func (p program) behind(first program) program {
	return program{first.text + " " + p.text, func(at int) []int {
		code := first.code(at)
		return append(slices.Clone(code), p.code(end(at, code))...)
	}}
}

// nested are all forms with each of these in each of their parts.
func nested(inside []program) []program {
	var all []program
	for _, f := range forms {
		for _, first := range inside {
			if f.parts == 1 {
				all = append(all, f.filledWith(first))
				continue
			}
			for _, second := range inside {
				all = append(all, f.filledWith(first, second))
			}
		}
	}
	return all
}

// compile does each word of a text: those of the table by Do, all others are emitted.
func compile(t *testing.T, s api.State, text string) api.State {
	t.Helper()
	for n, name := range strings.Fields(text) {
		s.Tok = n
		then, thrown, is := flow.Do(s, ops.Find(name))
		if !is {
			then, thrown = asm.Emit(s, ops.Find(name))
		}
		if thrown != 0 {
			t.Fatalf("%s: %s throws %d", text, name, thrown)
		}
		s = then
	}
	return s
}

// checkProgram compiles a program, and holds the whole state against what stands there by the forms.
func checkProgram(t *testing.T, p program, ctl []int) {
	t.Helper()
	s := api.State{Mem: filled(760), Here: 256, Ctl: ctl, Words: []api.Word{{Name: "X", Code: self, Hid: true}}}
	want := s
	for _, v := range p.code(256) {
		want.Mem = with(want.Mem, want.Here, v)
		want.Here += 8
	}
	told := compile(t, s, p.text)
	for n, spot := range told.Spots {
		if spot.Addr != 256+8*n {
			t.Fatalf("%s: the spots %v", p.text, told.Spots)
		}
	}
	if len(told.Spots) != (want.Here-256)/8 {
		t.Fatalf("%s: the spots %v", p.text, told.Spots)
	}
	if told.Spots, told.Tok = nil, 0; !same(told, want) {
		t.Fatalf("%s: %+v, not %+v", p.text, told, want)
	}
}

// TestNested has all forms within one another in every combination, two deep with words between, and three and more deep: the code is what the forms say, and the control stack as it was (P11.2).
func TestNested(t *testing.T) {
	ones := nested(leaves)
	twos := nested(append(slices.Clone(leaves[:1]), nested(leaves[1:2])...))
	for _, p := range slices.Concat(leaves, ones, twos) {
		for _, ctl := range [][]int{nil, {5}, {2, 256}, {1, 8, 3, 16}} {
			checkProgram(t, p, ctl)
		}
	}
	for _, p := range nested(nested(nested(leaves[2:]))[:40]) {
		checkProgram(t, p, nil)
	}
}

// TestBeside has each two forms side by side, and in one another's parts (P11.2).
func TestBeside(t *testing.T) {
	ones := nested(leaves[1:2])
	var both []program
	for _, first := range ones {
		for _, second := range ones {
			both = append(both, second.behind(first))
		}
	}
	for _, p := range slices.Concat(both, nested(both[:20])) {
		checkProgram(t, p, nil)
	}
}

// TestDeep opens as many as the control stack holds, closes them, and finds them told (P11.2).
func TestDeep(t *testing.T) {
	for _, f := range forms {
		p := leaves[1]
		levels := 64
		if strings.Contains(f.text, "WHILE") {
			levels = 63 // A begin and an open one stand there at once, in the innermost.
		}
		if f.parts == 1 {
			for range levels {
				p = f.filledWith(p)
			}
			checkDeep(t, p)
			continue
		}
		first, second := p, p
		for range levels {
			first, second = f.filledWith(first, leaves[0]), f.filledWith(leaves[1], second)
		}
		checkDeep(t, first)
		// The second part of a WHILE has two pairs for each level.
		if levels == 64 {
			checkDeep(t, second)
		}
	}
}

// checkDeep compiles a program in much memory.
func checkDeep(t *testing.T, p program) {
	t.Helper()
	told := compile(t, api.State{Mem: make([]byte, 8192), Here: 256}, p.text)
	if len(told.Ctl) != 0 {
		t.Errorf("%s: %v is left", p.text, told.Ctl)
	}
	code := p.code(256)
	for n, v := range code {
		if at := 256 + 8*n; cellAt(told.Mem, at) != v {
			t.Fatalf("%s: %d at %d, not %d", p.text, cellAt(told.Mem, at), at, v)
		}
	}
	if told.Here != end(256, code) {
		t.Errorf("%s: it ends at %d, not %d", p.text, told.Here, end(256, code))
	}
}

// TestSeveralWhiles has rows of words that are no forms, but close what they open (P11.2).
func TestSeveralWhiles(t *testing.T) {
	for text, code := range map[string][]int{
		"BEGIN WHILE WHILE REPEAT THEN":           {4, 304, 4, 304, 3, 256},
		"BEGIN WHILE WHILE UNTIL THEN THEN":       {4, 304, 4, 304, 4, 256},
		"BEGIN WHILE REPEAT":                      {4, 288, 3, 256},
		"BEGIN WHILE AGAIN ELSE DUP THEN":         {4, 304, 3, 256, 3, 312, 13},
		"BEGIN WHILE UNTIL THEN":                  {4, 288, 4, 256},
		"BEGIN IF AGAIN":                          nil,
		"IF ELSE ELSE THEN":                       {4, 288, 3, 304, 3, 304},
		"DO IF LOOP":                              nil,
		"DO BEGIN WHILE REPEAT IF THEN LOOP":      {5, 336, 4, 304, 3, 272, 4, 320, 6, 272},
		"IF BEGIN DUP AGAIN THEN":                 {4, 296, 13, 3, 272},
		"DO DO +LOOP LOOP":                        {5, 320, 5, 304, 7, 288, 6, 272},
		"BEGIN DUP WHILE DUP DUP WHILE REPEAT":    {13, 4, 0, 13, 13, 4, 328, 3, 256},
		"IF DO ELSE":                              nil,
		"BEGIN THEN":                              nil,
		"IF REPEAT":                               nil,
		"DO REPEAT":                               nil,
		"DO WHILE":                                nil,
		"IF BEGIN WHILE REPEAT ELSE RECURSE THEN": {4, 320, 4, 304, 3, 272, 3, 328, self},
	} {
		s := api.State{Mem: filled(760), Here: 256, Words: []api.Word{{Name: "X", Code: self, Hid: true}}}
		thrown := 0
		for _, name := range strings.Fields(text) {
			op := ops.Find(name)
			if next, code, is := flow.Do(s, op); is {
				s, thrown = next, code
			} else {
				s, thrown = asm.Emit(s, op)
			}
		}
		if code == nil {
			if thrown != api.Control {
				t.Errorf("%s: %d, not Control", text, thrown)
			}
			continue
		}
		if thrown != 0 || s.Here != end(256, code) {
			t.Errorf("%s: %d, it ends at %d", text, thrown, s.Here)
			continue
		}
		for n, v := range code {
			if cellAt(s.Mem, 256+8*n) != v {
				t.Errorf("%s: %d at %d, not %d", text, cellAt(s.Mem, 256+8*n), 256+8*n, v)
			}
		}
	}
}

// path is a row of words, the state that came of them, and the cells that they laid untold.
type path struct {
	s      api.State
	untold []int
	done   []int
}

// longest is how many words a row has at most.
const longest = 6

// TestRows does all rows of up to five words, by the model: each cell that was laid untold, and belongs to no pair any more, is told (P11.1, P11.2).
func TestRows(t *testing.T) {
	start := full(512, 256, 7, 3, 8)
	walk(t, path{s: start})
}

// walk goes on from a row of words by each word.
func walk(t *testing.T, p path) {
	holdTold(t, p)
	if len(p.done) == longest {
		return
	}
	for _, op := range numbers {
		want, code := meantToRecurse(p.s)
		for _, r := range rows {
			if r.op == op {
				want, code = r.meant(p.s)
			}
		}
		told, thrown, is := flow.Do(p.s, op)
		if !same(told, want) || thrown != code || !is {
			t.Fatalf("%d behind %v: %+v, %d, not %+v, %d", op, p.done, told, thrown, want, code)
		}
		if thrown != 0 {
			continue
		}
		next := path{s: told, untold: slices.Clone(p.untold), done: append(slices.Clone(p.done), op)}
		if slices.Contains([]int{98, 99, 104, 106}, op) {
			next.untold = append(next.untold, told.Here-8)
		}
		walk(t, next)
	}
}

// holdTold holds that the cells that were laid untold are told, but those of pairs that are still there.
func holdTold(t *testing.T, p path) {
	for _, cell := range p.untold {
		belongs := false
		for top := len(p.s.Ctl) - 2; top >= 0; top -= 2 {
			belongs = belongs || p.s.Ctl[top] != 2 && p.s.Ctl[top+1] == cell
		}
		if told := cellAt(p.s.Mem, cell); belongs != (told == 0) || told != 0 && (told <= cell || told > p.s.Here) {
			t.Fatalf("behind %v: at %d stands %d, of %v", p.done, cell, told, p.s.Ctl)
		}
	}
}
