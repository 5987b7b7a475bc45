package treadle_test

import (
	"slices"
	"strings"

	"treadle/api"
)

// model is a second reading of what the document says of a run, plainer and slower: it goes through the code's own bytes, looks for the end of a block when it comes to it, and calls itself for each block and call.
type model struct {
	signatures []signature
	functions  []function
	fuel       int
	steps      int
	waiting    int
}

// modelled is how the model's run of a function ends.
func modelled(signatures []signature, functions []function, f int, args []int64, fuel int) (o api.Outcome) {
	m := &model{signatures: signatures, functions: functions, fuel: fuel}
	defer func() {
		switch reason := recover().(type) {
		case nil:
		case api.End:
			o = api.Outcome{End: reason, Steps: m.steps}
		default:
			panic(reason)
		}
	}()
	values := m.call(f, args)
	return api.Outcome{End: api.Done, Steps: m.steps, Values: values}
}

func (m *model) call(f int, args []int64) []int64 {
	fn := m.functions[f]
	c := &modelCall{model: m, code: fn.code, locals: append(slices.Clone(args), make([]int64, len(fn.locals))...)}
	c.body(0)
	return c.last(len(m.signatures[fn.signature].gives))
}

type modelCall struct {
	*model
	code   []byte
	locals []int64
	stack  []int64
}

// last takes the last numbers of the stack.
func (c *modelCall) last(count int) []int64 {
	rest := len(c.stack) - count
	list := slices.Clone(c.stack[rest:])
	c.stack = c.stack[:rest]
	return list
}

func (c *modelCall) pop() int64 { return c.last(1)[0] }

func (c *modelCall) push(list ...int64) { c.stack = append(c.stack, list...) }

// behind is the place behind the instruction that begins there.
func (c *modelCall) behind(at int) int {
	switch b := c.code[at]; b {
	case 2, 3, 4, 7, 8, 11, 14, 15, 16:
		return at + 2
	case 9:
		return at + 3 + int(c.code[at+1])
	case 20:
		return at + 5
	case 21:
		return at + 9
	}
	return at + 1
}

// halves are the places behind the else, or 0, and behind the end of the block whose body begins there.
func (c *modelCall) halves(at int) (other, end int) {
	for open := 1; ; {
		b := c.code[at]
		at = c.behind(at)
		switch {
		case b >= 2 && b <= 4:
			open++
		case b == 5 && open == 1:
			other = at
		case b == 6:
			open--
		}
		if open == 0 {
			return other, at
		}
	}
}

// nowhere is what a body tells that came to its end; else it tells how many frames out the label is.
const nowhere = -1

// body runs what stands there, up to the end of its block.
func (c *modelCall) body(at int) int {
	for {
		if c.steps == c.fuel {
			panic(api.Fuel)
		}
		c.steps++
		b, operands := c.code[at], c.code[at+1:c.behind(at)]
		at = c.behind(at)
		switch b {
		case 0:
			panic(api.Stopped)
		case 2, 3, 4:
			label, next := c.block(b, c.signatures[operands[0]], at)
			if label > 0 {
				return label - 1
			}
			at = next
		case 5, 6:
			return nowhere
		case 7, 8:
			if b == 7 || c.pop() != 0 {
				return int(operands[0])
			}
		case 9:
			last := int64(operands[0])
			n := c.pop()
			if n < 0 || n > last {
				n = last
			}
			return int(operands[1+n])
		case 10:
			return 1000
		default:
			c.simple(b, operands)
		}
	}
}

// block runs a block, loop or if whose body begins there; it tells the label to which it went, and where it goes on.
func (c *modelCall) block(b byte, s signature, at int) (label, next int) {
	other, end := c.halves(at)
	if b == 4 && c.pop() == 0 {
		if other == 0 {
			return nowhere, end
		}
		at = other
	}
	height := len(c.stack) - len(s.takes)
	label = c.body(at)
	for b == 3 && label == 0 {
		c.stack = append(c.stack[:height], c.last(len(s.takes))...)
		label = c.body(at)
	}
	if label == 0 {
		c.stack = append(c.stack[:height], c.last(len(s.gives))...)
	}
	return label, end
}

func (c *modelCall) simple(b byte, operands []byte) {
	var number int64
	for i, o := range operands {
		if number = number<<8 | int64(o); i == 3 && b == 20 {
			number = smalls.rounded(number)
		}
	}
	switch b {
	case 11:
		c.enter(int(number))
	case 12:
		c.pop()
	case 13:
		if l := c.last(3); l[2] != 0 {
			c.push(l[0])
		} else {
			c.push(l[1])
		}
	case 14:
		c.push(c.locals[number])
	case 15, 16:
		c.locals[number] = c.pop()
		if b == 16 {
			c.push(c.locals[number])
		}
	case 20, 21:
		c.push(number)
	case 42, 62:
		c.push(oneIf(c.pop() == 0))
	case 70:
		c.push(smalls.rounded(c.pop()))
	case 1, 71:
	default:
		c.reckon(b)
	}
}

func (c *modelCall) enter(f int) {
	if c.waiting++; c.waiting > 40 {
		panic(api.Deep)
	}
	c.push(c.call(f, c.last(len(c.signatures[c.functions[f].signature].takes)))...)
	c.waiting--
}

func (c *modelCall) reckon(b byte) {
	kind := smalls
	if b >= 50 {
		kind = wides
	}
	for word, byteOf := range words {
		if byteOf != b {
			continue
		}
		second, first := c.pop(), c.pop()
		n, end := kind.exactly(strings.TrimPrefix(word, kind.begins), first, second)
		if end != api.Done {
			panic(end)
		}
		c.push(n)
	}
}
