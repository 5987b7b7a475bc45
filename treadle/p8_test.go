package treadle_test

import (
	"fmt"
	"math"
	"testing"

	"treadle/api"
)

// givesRightly checks what holds of the Values of every run.
func givesRightly(t *testing.T, o api.Outcome, fuel int, gives []int) {
	t.Helper()
	if o.Steps < 0 || o.Steps > fuel || o.End == api.Fuel && o.Steps != fuel {
		t.Errorf("P7: with fuel %d: %s", fuel, told(o))
	}
	if o.End != api.Done {
		if len(o.Values) != 0 {
			t.Errorf("P1: %s", told(o))
		}
		return
	}
	if len(o.Values) != len(gives) {
		t.Errorf("P8: %s, but the function gives %v", told(o), gives)
		return
	}
	for i, n := range o.Values {
		if gives[i] == 1 && (n < math.MinInt32 || n > math.MaxInt32) {
			t.Errorf("P8: %s: number %d is no small", told(o), i)
		}
	}
}

// Whatever module is loaded: it is run as the document says, gives what it is to give, and with more fuel the same.
func TestDrawnModules(t *testing.T) {
	var d dice
	ends := map[api.End]int{}
	for range 2000 {
		drawn := d.drawn(t)
		for range 12 {
			f := d.below(3)
			s := drawn.signatures[drawn.functions[f].signature]
			args := d.args(s.takes)
			fuel := []int{3, 10, 40, 200, 3000}[d.below(5)]
			o, e := drawn.module.Run(f, args, fuel)
			if e != api.OK {
				t.Fatalf("P6: error %d", e)
			}
			ends[o.End]++
			givesRightly(t, o, fuel, s.gives)
			if want := told(modelled(drawn.signatures, drawn.functions, f, args, fuel)); told(o) != want {
				t.Errorf("P7: %v: Run(%d, %v, %d): %s, want %s", drawn.functions, f, args, fuel, told(o), want)
			}
			drawn.isSameWithMore(t, &d, f, args, o)
		}
	}
	for end, least := range map[api.End]int{api.Done: 5000, api.Stopped: 500, api.Zero: 500, api.Fuel: 2000, api.Deep: 500} {
		if ends[end] < least {
			t.Errorf("only %d runs ended by %d", ends[end], end)
		}
	}
}

// isSameWithMore checks that with just as many steps of fuel, or more, a run that Fuel did not end is the same, and that with less of it Fuel ends it.
func (c drawn) isSameWithMore(t *testing.T, d *dice, f int, args []int64, o api.Outcome) {
	t.Helper()
	if o.End == api.Fuel {
		return
	}
	for _, fuel := range []int{o.Steps, o.Steps + 1, o.Steps + d.below(1000), 100000} {
		if more, e := c.module.Run(f, args, fuel); e != api.OK || told(more) != told(o) {
			t.Errorf("P8: %v: Run(%d, %v, %d): %s, %d, was %s", c.functions, f, args, fuel, told(more), e, told(o))
		}
	}
	less := d.below(o.Steps)
	if got := outcome(t, c.module, f, args, less); got != fmt.Sprintf("Fuel %d []", less) {
		t.Errorf("P7: %v: Run(%d, %v, %d): %s, but with more fuel %s", c.functions, f, args, less, got, told(o))
	}
}
