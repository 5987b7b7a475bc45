package treadle_test

import (
	"math"
	"testing"

	"treadle/api"
)

// wild is a number of any size.
func (d *dice) wild() int64 {
	edges := []int64{math.MinInt64, math.MaxInt64, math.MinInt32, math.MaxInt32, math.MinInt32 - 1, math.MaxInt32 + 1, -1, 0, 1, 100000, 100001}
	if d.below(2) == 0 {
		return edges[d.below(len(edges))]
	}
	return int64(d.below(5) - 1)
}

// Whatever is asked for, Run answers: with an error nothing else, and without one a whole Outcome.
func TestRunOfAnything(t *testing.T) {
	var d dice
	ran := 0
	for range 500 {
		drawn := d.drawn(t)
		for range 20 {
			args := make([]int64, d.below(4))
			for i := range args {
				args[i] = d.wild()
			}
			f, fuel := int(d.wild()), int(d.wild())
			o, e := drawn.module.Run(f, args, fuel)
			if e == api.OK {
				ran++
				givesRightly(t, o, fuel, drawn.signatures[drawn.functions[f].signature].gives)
				continue
			}
			if e != api.ErrArg || o.End != 0 || o.Steps != 0 || len(o.Values) != 0 {
				t.Errorf("P1: Run(%d, %v, %d) = %v, %d", f, args, fuel, o, e)
			}
		}
	}
	if ran < 100 {
		t.Errorf("only %d ran", ran)
	}
}

// A run may do as much as there may be at most: all fuel, with a stack as high as code can make it, in as many calls as may wait.
func TestRunOfMost(t *testing.T) {
	text := ""
	for range 60 {
		text += "small=1 "
	}
	m := program(t, part{"s", "s", "wwwwwwww", "loop 1 " + text + "get 0 if 0 get 0 small=1 sub call 0 drop end go 0 end end"})
	if got := outcome(t, m, 0, []int64{40}, 100000); got != "Fuel 100000 []" {
		t.Errorf("P1: %s", got)
	}
	if got := outcome(t, m, 0, []int64{41}, 100000); got != "Deep 2747 []" {
		t.Errorf("P1: %s", got)
	}
}
