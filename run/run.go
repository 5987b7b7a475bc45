// Package run runs functions whose code has been looked through: it asks for no types any more.
package run

import (
	"treadle/api"
	"treadle/code"
	"treadle/look"
)

// Run runs one of the functions, with as many args as it takes, and with as many steps as there is fuel.
func Run(functions []look.Function, f int, args []int64, fuel int) api.Outcome {
	m := &machine{functions: functions}
	m.enter(f, args)
	return m.run(fuel)
}

// machine is a run: the calls that have not returned, the innermost last, and how many instructions were done.
type machine struct {
	functions []look.Function
	calls     []*call
	steps     int
}

// run is a loop over instructions within a loop over calls.
func (m *machine) run(fuel int) api.Outcome {
calls:
	for {
		c := m.innermost()
	instructions:
		for c.next < len(c.Steps) {
			if m.steps == fuel {
				return m.ended(api.Fuel)
			}
			m.steps++
			step := c.step()
			switch step.Name {
			case code.Stop:
				return m.ended(api.Stopped)
			case code.Call:
				if len(m.calls) > api.MaxCalls {
					return m.ended(api.Deep)
				}
				m.enter(step.Index, c.popAll(m.takes(step.Index)))
				continue calls
			case code.Return:
				break instructions
			}
			if end := c.do(step); end != api.Done {
				return m.ended(end)
			}
		}
		values := c.popAll(len(c.Gives))
		m.calls = m.calls[:len(m.calls)-1]
		if len(m.calls) == 0 {
			return api.Outcome{End: api.Done, Steps: m.steps, Values: values}
		}
		m.innermost().pushAll(values)
	}
}

func (m *machine) innermost() *call { return m.calls[len(m.calls)-1] }

func (m *machine) ended(end api.End) api.Outcome {
	return api.Outcome{End: end, Steps: m.steps}
}

// takes is how many numbers the function takes.
func (m *machine) takes(f int) int { return len(m.functions[f].Takes) }

func (m *machine) enter(f int, args []int64) {
	c := &call{Function: &m.functions[f]}
	c.locals = make([]int64, c.Locals)
	copy(c.locals, args)
	m.calls = append(m.calls, c)
}
