package treadle_test

import (
	"bytes"
	"fmt"
	"slices"
	"testing"

	"treadle/api"
	"treadle/treadle"
)

func TestLoadWritesNothing(t *testing.T) {
	for _, b := range [][]byte{mixed().bytes, small().bytes, full(t, 4000)} {
		memory := append(slices.Clone(b), slices.Repeat([]byte{77}, 100)...)
		before := slices.Clone(memory)
		for length := range memory {
			treadle.Load(memory[:length])
			if !bytes.Equal(memory, before) {
				t.Fatalf("P2: Load of %d bytes wrote into them, or behind them", length)
			}
		}
	}
}

func TestLoadKeepsNothing(t *testing.T) {
	b := mixed().bytes
	m := isLoaded(t, b)
	before := fmt.Sprint(m.Functions())
	for _, over := range []byte{0, 1, 2, 255} {
		for i := range b {
			b[i] = over
		}
		if got := fmt.Sprint(m.Functions()); got != before {
			t.Errorf("P2: the bytes written over with %d: Functions() = %s, was %s", over, got, before)
		}
	}
}

// lists are all lists of numbers of an answer, with their spare room.
func lists(told []api.Function) [][]int {
	var all [][]int
	for _, f := range told[:cap(told)] {
		all = append(all, f.Takes[:cap(f.Takes)], f.Gives[:cap(f.Gives)])
	}
	return all
}

func fill(list []int, n int) {
	for i := range list {
		list[i] = n
	}
}

func TestFunctionsAreNewMemory(t *testing.T) {
	m := isLoaded(t, mixed().bytes)
	first, second := m.Functions(), m.Functions()
	before := fmt.Sprint(second)
	for i, l := range lists(first) {
		fill(l, 1000+i)
	}
	for i := range first[:cap(first)] {
		first[:cap(first)][i] = api.Function{Takes: []int{9}, Gives: []int{9}}
	}
	if got := fmt.Sprint(second); got != before {
		t.Errorf("P2: two answers share memory: %s, was %s", got, before)
	}
	if got := fmt.Sprint(m.Functions()); got != before {
		t.Errorf("P2: an answer is the Module's own memory: %s, was %s", got, before)
	}
}

func TestFunctionsShareNothing(t *testing.T) {
	all := lists(isLoaded(t, mixed().bytes).Functions())
	for i, l := range all {
		fill(l, 1000+i)
	}
	for i, l := range all {
		for _, n := range l {
			if n != 1000+i {
				t.Errorf("P2: list %d of the answer shares memory with list %d", i, n-1000)
			}
		}
	}
}

func TestModulesShareNothing(t *testing.T) {
	b := mixed().bytes
	one := isLoaded(t, b)
	before := fmt.Sprint(one.Functions())
	other := isLoaded(t, small().bytes)
	treadle.Load(b[:20])
	if got := fmt.Sprint(one.Functions()); got != before {
		t.Errorf("P2: another Load changed a Module: %s, was %s", got, before)
	}
	if got := fmt.Sprint(other.Functions()); got != "[{[] []}]" {
		t.Errorf("P2: the other Module: %s", got)
	}
}
