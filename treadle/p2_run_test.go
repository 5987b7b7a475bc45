package treadle_test

import (
	"fmt"
	"slices"
	"sync"
	"testing"

	"treadle/api"
	"treadle/treadle"
)

// writing is a function that writes over all its locals, its args among them, and gives what it wrote and what it was given.
func writing(t *testing.T) *treadle.Module {
	t.Helper()
	return program(t, writingPart())
}

func writingPart() part {
	return part{"sw", "sws", "sw", "get 0 get 1 small=7 tee 0 wide=8 set 1 get 2 add small=9 set 2 wide=10 set 3 end"}
}

func TestRunWritesNothingIntoArgs(t *testing.T) {
	m := writing(t)
	memory := []int64{5, 6, 77, 77, 77, 77, 77, 77, 77, 77}
	for fuel := range 16 {
		outcome(t, m, 0, memory[:2], fuel)
		if !slices.Equal(memory, []int64{5, 6, 77, 77, 77, 77, 77, 77, 77, 77}) {
			t.Fatalf("P2: with fuel %d Run wrote into the args, or behind them: %v", fuel, memory)
		}
	}
	m.Run(0, memory[:1], 9)
	m.Run(0, memory[:3], 9)
	m.Run(1, memory[:2], 9)
	if !slices.Equal(memory, []int64{5, 6, 77, 77, 77, 77, 77, 77, 77, 77}) {
		t.Errorf("P2: Run wrote into the args that it refused, or behind them: %v", memory)
	}
}

// A function that gives its args back does not give their memory.
func TestValuesAreNewMemory(t *testing.T) {
	m := program(t, part{"sws", "sws", "", "get 0 get 1 get 2 end"})
	args := []int64{1, 2, 3}
	first, _ := m.Run(0, args, 9)
	second, _ := m.Run(0, args, 9)
	for i := range first.Values[:cap(first.Values)] {
		first.Values[:cap(first.Values)][i] = 1000
	}
	clear(args)
	if told(second) != "Done 4 [1 2 3]" {
		t.Errorf("P2: two answers share memory, or one and its args: %s", told(second))
	}
	if got := outcome(t, m, 0, []int64{4, 5, 6}, 9); got != "Done 4 [4 5 6]" {
		t.Errorf("P2: a later run: %s", got)
	}
	if !slices.Equal(args, []int64{0, 0, 0}) {
		t.Errorf("P2: the args are the values: %v", args)
	}
}

// There is no spare room behind the Values in which something else could stand.
func TestValuesHaveNoSpareRoom(t *testing.T) {
	for _, p := range []part{{"", "", "", "end"}, {"", "s", "", "small=1 small=2 return end"}, {"", "sws", "", "small=1 small=1 wide=1 small=1 return end"}} {
		if o, _ := program(t, p).Run(0, nil, 9); len(o.Values) != len(p.gives) || cap(o.Values) != len(o.Values) {
			t.Errorf("P2: %q: %d values, room for %d", p.text, len(o.Values), cap(o.Values))
		}
	}
}

func TestRunOfBytesWrittenOver(t *testing.T) {
	b := programBytes(t, writingPart())
	m := isLoaded(t, b)
	before := outcome(t, m, 0, []int64{5, 6}, 99)
	for _, over := range []byte{0, 1, 6, 255} {
		for i := range b {
			b[i] = over
		}
		if got := outcome(t, m, 0, []int64{5, 6}, 99); got != before {
			t.Errorf("P2: the bytes written over with %d: %s, was %s", over, got, before)
		}
	}
}

// Runs in turns, whole ones and such as end early, do not touch each other.
func TestRunsInTurns(t *testing.T) {
	m := program(t, writingPart(), part{"s", "s", "s", "get 1 small=3 set 1 get 0 if 0 get 0 small=1 sub call 1 drop end end"})
	for turn := range 100 {
		for fuel := range 20 {
			outcome(t, m, turn%2, [][]int64{{1, 2}, {50}}[turn%2], fuel*turn)
		}
		if got := outcome(t, m, 0, []int64{5, 6}, 99); got != "Done 13 [5 6 7]" {
			t.Fatalf("P2: turn %d: %s", turn, got)
		}
		if got := outcome(t, m, 1, []int64{2}, 99); got != fmt.Sprintf("Done %d [0]", 2*9+6+2*3) {
			t.Fatalf("P2: turn %d: %s", turn, got)
		}
		mayNotRun(t, m, 2, nil, 9)
		m.Functions()
	}
}

func TestDrawnRunsInTurns(t *testing.T) {
	var d dice
	for range 50 {
		drawn := d.drawn(t)
		type asked struct {
			f    int
			args []int64
			want string
		}
		var all []asked
		for f := range drawn.functions {
			for range 3 {
				args := d.args(drawn.signatures[drawn.functions[f].signature].takes)
				all = append(all, asked{f, args, outcome(t, drawn.module, f, args, 500)})
			}
		}
		for range 50 {
			a := all[d.below(len(all))]
			if got := outcome(t, drawn.module, a.f, a.args, 500); got != a.want {
				t.Errorf("P2: %v: Run(%d, %v): %s, was %s", drawn.functions, a.f, a.args, got, a.want)
			}
		}
	}
}

// Runs at the same time do not touch each other either.
func TestRunsAtTheSameTime(t *testing.T) {
	m := program(t, part{"s", "s", "", "get 0 get 0 if 2 small=1 sub call 0 get 0 add end end"})
	var all sync.WaitGroup
	for n := range int64(30) {
		all.Go(func() {
			for range 20 {
				if o, e := m.Run(0, []int64{n}, 9999); e != api.OK || told(o) != fmt.Sprintf("Done %d [%d]", 4+10*n, n*(n+1)/2) {
					t.Errorf("P2: of %d: %s, %d", n, told(o), e)
				}
			}
		})
	}
	all.Wait()
}
