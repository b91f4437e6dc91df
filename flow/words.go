package flow

import "nostos/api"

// The words that are laid, by their numbers: no name finds them, as they are inner ones.
const (
	branch     = 3
	zeroBranch = 4
	loopBegin  = 5
	loopEnd    = 6
	loopEndBy  = 7
)

// word does a word of control flow.
type word func(w *work)

// words are the words of control flow, by their names.
func words() map[string]word {
	return map[string]word{
		"IF":      opening(zeroBranch, open),
		"ELSE":    orElse,
		"THEN":    func(w *work) { w.settle(w.want(open)[0]) },
		"BEGIN":   back,
		"AGAIN":   goingBack(branch),
		"UNTIL":   goingBack(zeroBranch),
		"WHILE":   while,
		"REPEAT":  repeat,
		"DO":      opening(loopBegin, loop),
		"LOOP":    closing(loopEnd),
		"+LOOP":   closing(loopEndBy),
		"RECURSE": func(w *work) { w.emit(w.own()) },
	}
}

// opening is a word that lays another one, with a cell that is told later, by the pair that comes.
func opening(op, kind int) word {
	return func(w *work) {
		w.room(1)
		w.put(kind, w.lay(op, 0))
	}
}

// goingBack is a word that lays another one, with the address of a begin.
func goingBack(op int) word {
	return func(w *work) { w.lay(op, w.want(begin)[0]) }
}

// closing is a word that lays another one, with where the code in a loop begins: behind the cell that belongs to (DO).
func closing(op int) word {
	return func(w *work) {
		addrs := w.want(loop)
		w.lay(op, addrs[0]+api.Cell)
		w.settle(addrs[0])
	}
}

// orElse lays a branch ahead of where the open cell goes to; it asks for no room, as a pair goes where one comes.
func orElse(w *work) {
	addrs := w.want(open)
	cell := w.lay(branch, 0)
	w.settle(addrs[0])
	w.put(open, cell)
}

// back lays nothing: what is gone back to is where the next thing will be laid.
func back(w *work) {
	w.room(1)
	w.put(begin, w.state.Here)
}

// while opens below a begin, which is taken off, and comes again.
func while(w *work) {
	addrs := w.want(begin)
	w.room(2)
	w.put(open, w.lay(zeroBranch, 0))
	w.put(begin, addrs[0])
}

// repeat goes back to a begin, and settles what is open below it.
func repeat(w *work) {
	addrs := w.want(begin, open)
	w.lay(branch, addrs[0])
	w.settle(addrs[1])
}
