// Package treadle: code for a stack that is looked through once, and can then not go wrong: see DOC.md.
package treadle

import (
	"treadle/api"
	"treadle/look"
	"treadle/number"
	"treadle/run"
	"treadle/shape"
)

// Module is functions that may be run.
type Module struct {
	functions []look.Function // none in a Module that Load did not make
}

// Load loads a module (P3, P4).
func Load(module []byte) (*Module, api.Errno, int) { return load(module) }

// load has names for its results, so that they can still be set when a reader has given up.
func load(module []byte) (loaded *Module, errno api.Errno, place int) {
	defer func() {
		if reason := recover(); reason != nil {
			loaded = nil
			errno, place = refusal(reason)
		}
	}()
	return &Module{look.Through(shape.Read(module))}, api.OK, 0
}

// refusal tells why a reader gave up. What is no Fault is refused too: whatever happened, no call may panic, and no module be taken for a good one.
func refusal(reason any) (api.Errno, int) {
	if fault, ok := reason.(shape.Fault); ok {
		return fault.Errno, fault.Place
	}
	return api.ErrForm, 0
}

// isNone tells whether it is a Module that Load did not make: one that it made has a function.
func (m *Module) isNone() bool { return m == nil || len(m.functions) == 0 }

// Functions tells what functions take and give (P5).
func (m *Module) Functions() []api.Function {
	if m.isNone() {
		return nil
	}
	told := make([]api.Function, len(m.functions))
	for i, f := range m.functions {
		told[i] = api.Function{Takes: copyOf(f.Takes), Gives: copyOf(f.Gives)}
	}
	return told
}

// copyOf leaves no spare room, so that nothing but the list itself is handed out.
func copyOf(types []int) []int {
	list := make([]int, len(types))
	copy(list, types)
	return list
}

// Run runs a function (P6, P7).
func (m *Module) Run(f int, args []int64, fuel int) (api.Outcome, api.Errno) {
	if m.isNone() {
		return api.Outcome{}, api.ErrClosed
	}
	if !m.mayRun(f, args, fuel) {
		return api.Outcome{}, api.ErrArg
	}
	return run.Run(m.functions, f, args, fuel), api.OK
}

// mayRun tells whether that may be asked for.
func (m *Module) mayRun(f int, args []int64, fuel int) bool {
	if f < 0 || f >= len(m.functions) || fuel < 0 || fuel > api.MaxFuel {
		return false
	}
	return areOf(m.functions[f].Takes, args)
}

// areOf tells whether the args are of these types, one of each.
func areOf(types []int, args []int64) bool {
	if len(args) != len(types) {
		return false
	}
	for i, t := range types {
		if t == shape.Small && !number.IsSmall(args[i]) {
			return false
		}
	}
	return true
}
