package flow

import (
	"nostos/api"
	"nostos/asm"
)

// Kinds of pairs on the control stack.
const (
	open  = 1 // at a cell that is not yet told
	begin = 2 // at what is gone back to
	loop  = 3 // at the cell that belongs to (DO)
)

// pair is how many numbers a pair has.
const pair = 2

// most is how many pairs a word wants at most.
const most = 2

// work is that of a word on a state. What is thrown first stays, and nothing is laid or settled after it; the state is of no use then.
type work struct {
	state  api.State
	thrown int
}

// hold throws a code where something isn't so.
func (w *work) hold(so bool, code int) {
	if !so && w.thrown == 0 {
		w.thrown = code
	}
}

// want takes pairs off, of these kinds from the top down, and tells their addresses.
func (w *work) want(kinds ...int) [most]int {
	addrs, are := taken(w.off, kinds)
	w.hold(are, api.Control)
	return addrs
}

// taken are the addresses of pairs that come off one by one, of these kinds; false, if one of them isn't there.
func taken(off func(kind int) (int, bool), kinds []int) (addrs [most]int, are bool) {
	for n, kind := range kinds {
		if addrs[n], are = off(kind); !are {
			return [most]int{}, false
		}
	}
	return addrs, true
}

// off takes the top pair off, and tells its address; false, if it isn't of that kind.
func (w *work) off(kind int) (int, bool) {
	below := len(w.state.Ctl) - pair
	if below < 0 || w.state.Ctl[below] != kind {
		return 0, false
	}
	addr := w.state.Ctl[below+1]
	w.state.Ctl = w.state.Ctl[:below]
	return addr, true
}

// room holds that so many pairs may still come.
func (w *work) room(many int) {
	w.hold(len(w.state.Ctl)+many*pair <= api.MaxCtl, api.Over)
}

// put lays a pair on top.
func (w *work) put(kind, addr int) {
	w.state.Ctl = append(w.state.Ctl, kind, addr)
}

// emit lays code.
func (w *work) emit(v ...int) {
	if w.thrown == 0 {
		w.state, w.thrown = asm.Emit(w.state, v...)
	}
}

// lay lays a word with a cell, and tells where that cell stands.
func (w *work) lay(op, cell int) int {
	w.emit(op, cell)
	return w.state.Here - api.Cell
}

// settle tells a cell where the next thing is laid.
func (w *work) settle(addr int) {
	if w.thrown == 0 {
		w.state, w.thrown = asm.Patch(w.state, addr, w.state.Here)
	}
}

// own is the code of the word that is being made.
func (w *work) own() int {
	last := len(w.state.Words) - 1
	if last < 0 || !w.state.Words[last].Hid {
		w.hold(false, api.Control)
		return 0
	}
	return w.state.Words[last].Code
}
