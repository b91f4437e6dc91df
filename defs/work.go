package defs

import (
	"slices"

	"nostos/api"
	"nostos/asm"
	"nostos/source"
	"nostos/stack"
)

// work is that of a word on a state. What is thrown first stays, and nothing is laid or said after it; the state is of no use then.
type work struct {
	api.State
	setup  api.Setup
	thrown int
}

// throw throws a code; 0 is none.
func (w *work) throw(code int) {
	if w.thrown == 0 {
		w.thrown = code
	}
}

// hold throws a code where something isn't so.
func (w *work) hold(so bool, code int) {
	if !so {
		w.throw(code)
	}
}

// take takes the top value.
func (w *work) take() int {
	left, taken, thrown := stack.Pop(w.Data, 1)
	w.throw(thrown)
	if thrown != 0 {
		return 0
	}
	w.Data = left
	return taken[0]
}

// give lays a value on top.
func (w *work) give(v int) {
	data, thrown := stack.Push(w.Data, w.setup.Depth, v)
	w.throw(thrown)
	w.Data = data
}

// token reads the next name, whatever its length is.
func (w *work) token() string {
	name, _, end := source.Token(w.setup.Source, w.At)
	w.At = end
	return name
}

// char reads the next name for its first byte.
func (w *work) char() int {
	name := w.token()
	if name == "" {
		w.throw(api.NoName)
		return 0
	}
	return int(name[0])
}

// until reads what stands ahead of a byte, and that byte.
func (w *work) until(c byte) string {
	text, end := source.Until(w.setup.Source, w.At, c)
	w.At = end
	return text
}

// emit lays code.
func (w *work) emit(v ...int) {
	if w.thrown == 0 {
		w.State, w.thrown = asm.Emit(w.State, v...)
	}
}

// comma lays a cell that is no code.
func (w *work) comma(v int) {
	if w.thrown == 0 {
		w.State, w.thrown = asm.Comma(w.State, v)
	}
}

// lay lays bytes, and leaves those behind them, up to the next cell, as they are.
func (w *work) lay(text string) {
	room := asm.Up(len(text))
	w.hold(room <= len(w.Mem)-w.Here, api.Full)
	if w.thrown == 0 {
		w.Mem = slices.Concat(w.Mem[:w.Here], []byte(text), w.Mem[w.Here+len(text):])
		w.Here += room
	}
}

// say lets bytes come to the output.
func (w *work) say(text string) {
	if w.thrown == 0 {
		w.State, w.thrown = Say(w.State, w.setup, text)
	}
}
