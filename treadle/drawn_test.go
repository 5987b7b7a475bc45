package treadle_test

import (
	"slices"
	"testing"

	"treadle/treadle"
)

// drawn is a module of functions with drawn code.
type drawn struct {
	signatures []signature
	functions  []function
	module     *treadle.Module
}

// drawn draws a module; its code may be by the way it is drawn.
func (d *dice) drawn(t *testing.T) drawn {
	t.Helper()
	functions := make([]function, 3)
	for i := range functions {
		functions[i] = function{d.below(sCount), []int{1, 2}, nil}
	}
	for i := range functions {
		functions[i].code = d.codeFor(functions, i)
	}
	return drawn{sAll(), functions, isLoaded(t, build(sAll(), functions).bytes)}
}

// args draws args for a function.
func (d *dice) args(takes []int) []int64 {
	args := make([]int64, len(takes))
	for i, t := range takes {
		args[i] = d.number(t)
	}
	return args
}

// number is one of the numbers of the type at which something changes, or one near 0.
func (d *dice) number(typeOf int) int64 {
	if d.below(2) == 0 {
		return int64(d.below(7) - 2)
	}
	edges := []numbers{smalls, wides}[typeOf-1].edges()
	return edges[d.below(len(edges))]
}

// codeFor draws code, until it is not too long.
func (d *dice) codeFor(functions []function, i int) []byte {
	s := sAll()[functions[i].signature]
	for {
		w := &writer{dice: d, functions: functions, locals: slices.Concat(s.takes, functions[i].locals)}
		w.body(nil, s.gives, s.gives, 6)
		if len(w.code) <= 400 {
			return w.code
		}
	}
}

// writer writes drawn code. It knows the types on the stack, and what the labels want, the innermost last.
type writer struct {
	*dice
	functions []function
	locals    []int
	code      []byte
	stack     []int
	wants     [][]int
}

func (w *writer) put(bytes ...byte) { w.code = append(w.code, bytes...) }

func (w *writer) give(types ...int) { w.stack = append(slices.Clip(w.stack), types...) }

// need lets the stack end with these types: as it does, or by giving them.
func (w *writer) need(types ...int) {
	rest := len(w.stack) - len(types)
	if rest >= 0 && slices.Equal(w.stack[rest:], types) && w.below(4) > 0 {
		return
	}
	for _, t := range types {
		w.one(t)
	}
}

// take is need, and then they are gone.
func (w *writer) take(types ...int) {
	w.need(types...)
	w.stack = w.stack[:len(w.stack)-len(types)]
}

// one gives one of a type: a local or a constant.
func (w *writer) one(t int) {
	if x := w.below(len(w.locals)); w.locals[x] == t {
		w.put(14, byte(x))
	} else {
		w.put(constant(w.number(t), 32*t)...)
	}
	w.give(t)
}

// body writes the inside of a block, and the else or end behind it; a label that speaks of it wants that.
func (w *writer) body(takes, gives, wants []int, behind byte) {
	outer := w.stack
	w.stack, w.wants = takes, append(slices.Clip(w.wants), wants)
	dead := false
	for i := w.below(8); i > 0 && !dead; i-- {
		dead = w.some()
	}
	if !dead {
		w.tidy(gives)
	}
	w.put(behind)
	w.stack, w.wants = outer, w.wants[:len(w.wants)-1]
}

// tidy leaves just these types on the stack.
func (w *writer) tidy(types []int) {
	for len(w.stack) > len(types) || !slices.Equal(w.stack, types[:len(w.stack)]) {
		w.put(12)
		w.stack = w.stack[:len(w.stack)-1]
	}
	for _, t := range types[len(w.stack):] {
		w.one(t)
	}
}

// some writes some instruction, and tells whether what stands behind it is dead.
func (w *writer) some() bool {
	switch w.below(12) {
	case 0, 1, 2:
		w.reckon()
	case 3, 4:
		w.local()
	case 5, 6, 7:
		w.open()
	case 8:
		w.call()
	case 9:
		w.plain()
	case 10:
		l := w.below(len(w.wants))
		w.need(append(slices.Clip(w.label(l)), 1)...)
		w.stack = w.stack[:len(w.stack)-1]
		w.put(8, byte(l))
	case 11:
		return w.leave()
	}
	return false
}

// label is what the label wants.
func (w *writer) label(l int) []int { return w.wants[len(w.wants)-1-l] }

// reckon writes an instruction of numbers: twelve are of two of them, the last of one.
func (w *writer) reckon() {
	t, nth := 1+w.below(2), w.below(13)
	takes, gives := []int{t, t}, t
	if nth >= 10 {
		gives = 1
	}
	if nth == 12 {
		takes = takes[:1]
	}
	w.take(takes...)
	w.put(byte(10 + 20*t + nth))
	w.give(gives)
}

func (w *writer) local() {
	x := w.below(len(w.locals))
	b := 14 + w.below(3)
	if b != 14 {
		w.take(w.locals[x])
	}
	if b != 15 {
		w.give(w.locals[x])
	}
	w.put(byte(b), byte(x))
}

// open writes a block, loop or if.
func (w *writer) open() {
	if len(w.wants) > 5 {
		return
	}
	b, n := 2+w.below(3), w.below(sCount)
	s := sAll()[n]
	if b == 4 {
		w.take(append(slices.Clip(s.takes), 1)...)
	} else {
		w.take(s.takes...)
	}
	w.put(byte(b), byte(n))
	switch {
	case b == 3:
		w.body(s.takes, s.gives, s.takes, 6)
	case b == 4 && (!slices.Equal(s.takes, s.gives) || w.below(2) == 0):
		w.body(s.takes, s.gives, s.gives, 5)
		fallthrough
	default:
		w.body(s.takes, s.gives, s.gives, 6)
	}
	w.give(s.gives...)
}

func (w *writer) call() {
	f := w.below(len(w.functions))
	s := sAll()[w.functions[f].signature]
	w.take(s.takes...)
	w.put(11, byte(f))
	w.give(s.gives...)
}

func (w *writer) plain() {
	switch w.below(5) {
	case 0:
		w.put(1)
	case 1:
		if len(w.stack) > 0 {
			w.put(12)
			w.stack = w.stack[:len(w.stack)-1]
		}
	case 2:
		t := 1 + w.below(2)
		w.take(t, t, 1)
		w.put(13)
		w.give(t)
	case 3:
		w.take(2)
		w.put(70)
		w.give(1)
	case 4:
		w.take(1)
		w.put(71)
		w.give(2)
	}
}

// leave writes what leads elsewhere, at times with code behind it that is never come to.
func (w *writer) leave() bool {
	l := w.below(len(w.wants))
	switch w.below(6) {
	case 0:
		w.put(0)
	case 1, 2:
		w.need(w.label(l)...)
		w.put(7, byte(l))
	case 3, 4:
		w.goBy(l)
	case 5:
		w.need(w.wants[0]...)
		w.put(10)
	}
	if w.below(2) == 0 {
		w.put(30, 12)
	}
	return true
}

// goBy writes a go by to labels that want what this one wants.
func (w *writer) goBy(l int) {
	w.need(append(slices.Clip(w.label(l)), 1)...)
	n := w.below(4)
	w.put(9, byte(n))
	for range n + 1 {
		other := w.below(len(w.wants))
		if !slices.Equal(w.label(other), w.label(l)) {
			other = l
		}
		w.put(byte(other))
	}
}
