// Package look looks through the code of a module whose form is right: whether it may be, and where its instructions lead.
package look

import (
	"slices"

	"treadle/api"
	"treadle/code"
	"treadle/shape"
)

// Function is one whose code may be, as a run needs it: Locals is how many it has in all.
type Function struct {
	shape.Signature
	Locals int
	Steps  []Step
}

// Step is an instruction. Index is the function or local that it names; Targets is where else it leads than to the next one: one for each label, of an if the one for a 0, of an else the one behind its end.
type Step struct {
	code.Kind
	Index   int
	Number  int64
	Targets []*Target
}

// Target is where a run goes on: with which instruction, how many numbers it keeps, and how high the stack is below these.
type Target struct {
	Next   int
	Keep   int
	Height int
}

// anything stands for a type that is as every one: what is taken where a dead frame has nothing.
const anything = 0

// Through looks through all code of a module, function by function, or panics with the Fault of the first instruction at which something is wrong.
func Through(m *shape.Module) []Function {
	functions := make([]Function, len(m.Functions))
	for i, f := range m.Functions {
		functions[i] = through(m, f)
	}
	return functions
}

func through(m *shape.Module, f shape.Function) Function {
	signature := m.Signatures[f.Signature]
	l := &looker{module: m, locals: slices.Concat(signature.Takes, f.Locals)}
	l.open(code.Block, signature)
	for at := 0; at < len(f.Code); {
		l.place = f.Start + at
		if len(l.frames) == 0 {
			l.giveUp(api.ErrNest)
		}
		step := code.Read(f, at)
		l.find(step)
		l.keep(step)
		l.do(step)
		at = step.Next
	}
	l.place = f.Start + len(f.Code)
	if len(l.frames) > 0 {
		l.giveUp(api.ErrNest)
	}
	return Function{signature, len(l.locals), l.steps}
}

// frame is the function's, or that of a block, loop or if that is open: name tells which. The function's is as a block's, and an if that has had its else is an else. began is the step that opened it, and target is where a label that speaks of it leads.
type frame struct {
	name      int
	signature shape.Signature
	height    int
	dead      bool
	began     int
	target    *Target
}

// wants is what a label that speaks of the frame wants.
func (f frame) wants() []int {
	if f.name == code.Loop {
		return f.signature.Takes
	}
	return f.signature.Gives
}

// looker is how far the look through a function has come; place is that of the instruction that is looked at, which is the last of steps.
type looker struct {
	module *shape.Module
	locals []int
	stack  []int
	frames []frame
	steps  []Step
	place  int
}

func (l *looker) giveUp(errno api.Errno) {
	panic(shape.Fault{Errno: errno, Place: l.place})
}

// find asks whether all that the instruction names is there.
func (l *looker) find(step code.Step) {
	count := l.count(step.Behind)
	for _, index := range step.Indexes {
		if index >= count {
			l.giveUp(api.ErrIndex)
		}
	}
}

// count is how many there are of what may be named.
func (l *looker) count(what int) int {
	switch what {
	case code.Signature:
		return len(l.module.Signatures)
	case code.Function:
		return len(l.module.Functions)
	case code.Local:
		return len(l.locals)
	}
	return len(l.frames)
}

// keep puts the instruction among the steps. Its labels are known, though not yet all the places to which they lead.
func (l *looker) keep(step code.Step) {
	kept := Step{Kind: step.Kind, Number: step.Number}
	switch step.Behind {
	case code.Function, code.Local:
		kept.Index = step.Indexes[0]
	case code.Label, code.Labels:
		for _, label := range step.Indexes {
			kept.Targets = append(kept.Targets, l.label(label).target)
		}
	}
	l.steps = append(l.steps, kept)
}

// lead lets an earlier step lead there.
func (l *looker) lead(step int, target *Target) {
	l.steps[step].Targets = []*Target{target}
}

// next is the step behind the one that is looked at.
func (l *looker) next() int { return len(l.steps) }

func (l *looker) do(step code.Step) {
	switch step.Name {
	case code.Block, code.Loop, code.If:
		l.begin(step)
	case code.Else:
		l.turn()
	case code.End:
		l.end()
	case code.Stop, code.Go, code.GoIf, code.GoBy, code.Return:
		l.jump(step)
	case code.Call:
		l.call(step.Indexes[0])
	case code.Drop:
		l.take(anything)
	case code.Pick:
		l.pick()
	case code.Get, code.Set, code.Tee:
		l.local(step)
	default:
		l.plain(step.Kind)
	}
}

// begin begins a block, loop or if. How deep it is is asked first, since ErrDeep is named ahead of ErrType.
func (l *looker) begin(step code.Step) {
	if len(l.frames) > api.MaxNest {
		l.giveUp(api.ErrDeep)
	}
	signature := l.module.Signatures[step.Indexes[0]]
	switch step.Name {
	case code.If:
		l.take(shape.Small)
		fallthrough
	case code.Block, code.Loop:
		l.takeAll(signature.Takes)
		l.open(step.Name, signature)
		l.giveAll(signature.Takes)
	}
}

// open opens a frame. Until its end is known its label leads to its beginning, which of a loop is right.
func (l *looker) open(name int, signature shape.Signature) {
	f := frame{name: name, signature: signature, height: len(l.stack), began: l.next() - 1}
	f.target = &Target{l.next(), len(f.wants()), f.height}
	l.frames = append(l.frames, f)
}

// turn goes over to the other half of an if. The first half goes on as if it had gone to the label.
func (l *looker) turn() {
	if l.innermost().name != code.If {
		l.giveUp(api.ErrNest)
	}
	inner := l.close()
	l.lead(l.next()-1, inner.target)
	inner.name, inner.dead = code.Else, false
	l.frames = append(l.frames, inner)
	l.giveAll(inner.signature.Takes)
}

// end ends the innermost frame. An if without an else lets what it takes through as what it gives, where its small is 0.
func (l *looker) end() {
	inner := l.close()
	takes, gives := inner.signature.Takes, inner.signature.Gives
	if inner.name == code.If && !slices.Equal(takes, gives) {
		l.giveUp(api.ErrType)
	}
	if inner.name != code.Loop {
		inner.target.Next = l.next()
	}
	l.giveAll(gives)
}

// close takes what the innermost frame gives, and the frame away, which must have nothing else left. With a 0 an if leads to what stands behind its first half.
func (l *looker) close() frame {
	inner := l.innermost()
	l.takeAll(inner.signature.Gives)
	if len(l.stack) != inner.height {
		l.giveUp(api.ErrType)
	}
	if inner.name == code.If {
		l.lead(inner.began, &Target{l.next(), len(inner.signature.Takes), inner.height})
	}
	l.frames = l.frames[:len(l.frames)-1]
	return inner
}

// jump does what leads elsewhere: to return is to go to the function's label, and a stop is a go that takes nothing along.
func (l *looker) jump(step code.Step) {
	wants := l.wants(step)
	switch step.Name {
	case code.GoIf:
		l.take(shape.Small)
		l.takeAll(wants)
		l.giveAll(wants)
	case code.GoBy:
		l.agree(step.Indexes, wants)
		l.take(shape.Small)
		fallthrough
	case code.Go, code.Return:
		l.takeAll(wants)
		fallthrough
	case code.Stop:
		l.die()
	}
}

// wants is what the first label of a jump wants; one without labels speaks of the function's.
func (l *looker) wants(step code.Step) []int {
	if len(step.Indexes) == 0 {
		return l.frames[0].wants()
	}
	return l.label(step.Indexes[0]).wants()
}

// agree asks whether all these labels want that.
func (l *looker) agree(labels []int, wants []int) {
	for _, label := range labels {
		if !slices.Equal(l.label(label).wants(), wants) {
			l.giveUp(api.ErrType)
		}
	}
}

// label is the frame of which the label speaks.
func (l *looker) label(label int) frame { return l.frames[len(l.frames)-1-label] }

func (l *looker) innermost() frame { return l.label(0) }

// die makes the innermost frame dead: what stands behind is never come to.
func (l *looker) die() {
	inner := &l.frames[len(l.frames)-1]
	inner.dead = true
	l.stack = l.stack[:inner.height]
}

func (l *looker) call(f int) {
	signature := l.module.Signatures[l.module.Functions[f].Signature]
	l.takeAll(signature.Takes)
	l.giveAll(signature.Gives)
}

// pick gives the type of its two that is known, if one is.
func (l *looker) pick() {
	l.take(shape.Small)
	second := l.take(anything)
	first := l.take(second)
	if second == anything {
		l.give(first)
		return
	}
	l.give(second)
}

func (l *looker) local(step code.Step) {
	local := l.locals[step.Indexes[0]]
	switch step.Name {
	case code.Set:
		l.take(local)
	case code.Tee:
		l.take(local)
		fallthrough
	case code.Get:
		l.give(local)
	}
}

// plain does an instruction whose types hang on nothing but its byte.
func (l *looker) plain(kind code.Kind) {
	for range kind.Takes {
		l.take(kind.Of)
	}
	if kind.Gives != 0 {
		l.give(kind.Gives)
	}
}

// take takes a type from the end of the stack, and tells which one it was.
func (l *looker) take(asked int) int {
	inner := l.innermost()
	last := len(l.stack) - 1
	if last < inner.height {
		if !inner.dead {
			l.giveUp(api.ErrType)
		}
		return anything
	}
	got := l.stack[last]
	l.stack = l.stack[:last]
	if got != asked && got != anything && asked != anything {
		l.giveUp(api.ErrType)
	}
	return got
}

func (l *looker) takeAll(types []int) {
	for _, t := range slices.Backward(types) {
		l.take(t)
	}
}

func (l *looker) give(t int) { l.stack = append(l.stack, t) }

func (l *looker) giveAll(types []int) { l.stack = append(l.stack, types...) }
