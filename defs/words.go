package defs

import (
	"slices"

	"nostos/api"
	"nostos/asm"
	"nostos/names"
	"nostos/source"
)

// The words that are emitted, by their numbers: no name finds most of them, as they are inner ones.
const (
	exit     = 1
	literal  = 2
	variable = 8
	does     = 9
	text     = 10
	mark     = 11
	compile  = 12
)

// word does a word that reads the source, or makes words.
type word func(w *work)

// words are those words, by their names.
func words() map[string]word {
	return map[string]word{
		":":         named(begin),
		";":         end,
		"IMMEDIATE": immediate,
		"CONSTANT":  constant,
		"VARIABLE":  named(variableOf),
		"CREATE":    named(create),
		"DOES>":     func(w *work) { w.emit(does) },
		"MARKER":    named(marker),
		"'":         found(func(w *work, code int, _ bool) { w.give(code) }),
		"[']":       found(func(w *work, code int, _ bool) { w.emit(literal, code) }),
		"LITERAL":   func(w *work) { w.emit(literal, w.take()) },
		"POSTPONE":  found(postpone),
		"[":         func(w *work) { w.Comp = false },
		"]":         func(w *work) { w.Comp = true },
		"CHAR":      func(w *work) { w.give(w.char()) },
		"[CHAR]":    func(w *work) { w.emit(literal, w.char()) },
		"(":         func(w *work) { w.until(')') },
		"\\":        func(w *work) { w.At = source.Line(w.setup.Source, w.At) },
		".\"":       quote,
	}
}

// named is a word that hands the next name on, if it may be one, and nothing was thrown ahead of it.
func named(then func(w *work, name string)) word {
	return func(w *work) {
		name := w.token()
		w.throw(names.May(name))
		if w.thrown == 0 {
			then(w, name)
		}
	}
}

// found is a word that hands on what stands for the next name, and whether that is done at once.
func found(then func(w *work, code int, now bool)) word {
	return named(func(w *work, name string) {
		code, now, is := Found(w.State, name)
		w.hold(is, api.Undefined)
		if is {
			then(w, code, now)
		}
	})
}

// define lets a word come whose code begins with what is laid next. Words get a list of their own, as others may have that one.
func (w *work) define(name string, hid bool) {
	w.Here = asm.Up(w.Here)
	w.hold(len(w.Words) < api.MaxWords, api.Full)
	w.Words = slices.Concat(w.Words, []api.Word{{Name: names.Fold(name), Code: w.Here, Hid: hid}})
}

// last changes the last word, if there is one, in a list of its own.
func (w *work) last(change func(made *api.Word)) {
	w.Words = slices.Clone(w.Words)
	if many := len(w.Words); many > 0 {
		change(&w.Words[many-1])
	}
}

// isMaking tells whether the last word isn't ended yet.
func (w *work) isMaking() bool {
	many := len(w.Words)
	return many > 0 && w.Words[many-1].Hid
}

// begin makes a word that isn't found until it is ended.
func begin(w *work, name string) {
	w.define(name, true)
	w.Comp = true
}

// end ends the word that is being made.
func end(w *work) {
	w.hold(len(w.Ctl) == 0 && w.isMaking(), api.Control)
	w.emit(exit)
	w.last(func(made *api.Word) { made.Hid = false })
	w.Comp = false
}

// immediate lets the last word be done at once.
func immediate(w *work) {
	w.hold(len(w.Words) > 0, api.Undefined)
	w.last(func(made *api.Word) { made.Now = true })
}

// constant makes a word that gives a value, which is taken ahead of the name.
func constant(w *work) {
	n := w.take()
	named(func(w *work, name string) {
		w.define(name, false)
		w.emit(literal, n, exit)
	})(w)
}

// create makes a word that gives the address behind its code.
func create(w *work, name string) {
	w.define(name, false)
	w.emit(variable, 0)
}

// variableOf makes such a word with a cell there.
func variableOf(w *work, name string) {
	create(w, name)
	w.comma(0)
}

// marker makes a word by which it goes, and all that came behind it.
func marker(w *work, name string) {
	ahead := len(w.Words)
	w.define(name, false)
	w.emit(mark, ahead)
}

// postpone lays what compiles a word: itself, if it is done at once.
func postpone(w *work, code int, now bool) {
	if now {
		w.emit(code)
		return
	}
	w.emit(literal, code, compile)
}

// quote lays a text, to be said later on, or says it.
func quote(w *work) {
	said := w.until('"')
	if !w.Comp {
		w.say(said)
		return
	}
	w.emit(text, len(said))
	w.lay(said)
}
