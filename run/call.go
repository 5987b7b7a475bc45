package run

import (
	"treadle/api"
	"treadle/code"
	"treadle/look"
	"treadle/number"
)

// call is a function that has not returned yet, with locals and a stack of its own; next is the step with which it goes on.
type call struct {
	*look.Function
	next   int
	locals []int64
	stack  []int64
}

// step comes to the next instruction.
func (c *call) step() look.Step {
	c.next++
	return c.Steps[c.next-1]
}

// do does an instruction that stays within the call. Unless the run ends with it, the End is Done.
func (c *call) do(step look.Step) api.End {
	switch step.Name {
	case code.If, code.Else, code.Go, code.GoIf, code.GoBy:
		c.jump(step)
	case code.Drop:
		c.pop()
	case code.Pick:
		c.pick()
	case code.Get, code.Set, code.Tee:
		c.local(step)
	case code.Constant:
		c.push(step.Number)
	default:
		return c.reckon(step.Kind)
	}
	return api.Done
}

// jump leads elsewhere, if it does: an if with a 0, and a go if with anything else. An else is a go behind its end.
func (c *call) jump(step look.Step) {
	target := step.Targets[0]
	switch step.Name {
	case code.If:
		if c.pop() == 0 {
			c.goTo(target)
		}
	case code.GoIf:
		if c.pop() != 0 {
			c.goTo(target)
		}
	case code.GoBy:
		target = choice(step.Targets, c.pop())
		fallthrough
	case code.Go, code.Else:
		c.goTo(target)
	}
}

// choice is the target of that number, and the last one where there is none.
func choice(targets []*look.Target, n int64) *look.Target {
	last := len(targets) - 1
	if n < 0 || n > int64(last) {
		return targets[last]
	}
	return targets[n]
}

func (c *call) goTo(target *look.Target) {
	kept := c.stack[len(c.stack)-target.Keep:]
	c.stack = append(c.stack[:target.Height], kept...)
	c.next = target.Next
}

func (c *call) pick() {
	asked := c.pop()
	second := c.pop()
	first := c.pop()
	if asked != 0 {
		c.push(first)
		return
	}
	c.push(second)
}

func (c *call) local(step look.Step) {
	local := &c.locals[step.Index]
	switch step.Name {
	case code.Set:
		*local = c.pop()
	case code.Tee:
		*local = c.pop()
		fallthrough
	case code.Get:
		c.push(*local)
	}
}

// reckon does what takes numbers of one type and gives one. What takes none does nothing more: nothing, block, loop and end.
func (c *call) reckon(kind code.Kind) api.End {
	switch kind.Takes {
	case 1:
		c.push(number.OfOne(kind.Name, c.pop()))
	case 2:
		second := c.pop()
		first := c.pop()
		n, end := number.OfTwo(kind, first, second)
		if end != api.Done {
			return end
		}
		c.push(n)
	}
	return api.Done
}

func (c *call) push(n int64) { c.stack = append(c.stack, n) }

func (c *call) pushAll(list []int64) { c.stack = append(c.stack, list...) }

func (c *call) pop() int64 {
	last := len(c.stack) - 1
	n := c.stack[last]
	c.stack = c.stack[:last]
	return n
}

// popAll is the last numbers of the stack, in order, so many of them: in new memory without spare room, since it may be what is told of the run.
func (c *call) popAll(count int) []int64 {
	rest := len(c.stack) - count
	list := make([]int64, count)
	copy(list, c.stack[rest:])
	c.stack = c.stack[:rest]
	return list
}
