package treadle_test

import (
	"fmt"
	"math"
	"testing"

	"treadle/api"
	"treadle/treadle"
)

// mayNotRun checks that Run answers ErrArg, and nothing else.
func mayNotRun(t *testing.T, m *treadle.Module, f int, args []int64, fuel int) {
	t.Helper()
	o, e := m.Run(f, args, fuel)
	if e != api.ErrArg || o.End != 0 || o.Steps != 0 || len(o.Values) != 0 {
		t.Errorf("P6: Run(%d, %v, %d) = %v, %d, want ErrArg alone", f, args, fuel, o, e)
	}
}

// three are functions that can be told apart: by what they take, and by what they give.
func three(t *testing.T) *treadle.Module {
	t.Helper()
	return program(t,
		part{"", "", "", "end"},
		part{"swsw", "wsw", "sw", "get 3 get 0 get 1 end"},
		part{"s", "s", "", "get 0 end"},
	)
}

func TestFunctionThatThereIsNot(t *testing.T) {
	m := three(t)
	for _, f := range []int{-1, -2, 3, 4, 256, math.MinInt, math.MaxInt} {
		for _, args := range [][]int64{nil, {1}, {1, 2, 3, 4}} {
			mayNotRun(t, m, f, args, 9)
		}
	}
	all := make([]part, 13)
	for i := range all {
		all[i] = part{"", "s", "", fmt.Sprintf("small=%d end", 100+i)}
	}
	m = program(t, all...)
	for f := range all {
		if got, want := outcome(t, m, f, nil, 9), fmt.Sprintf("Done 2 [%d]", 100+f); got != want {
			t.Errorf("P6: function %d: %s, want %s", f, got, want)
		}
	}
	mayNotRun(t, m, len(all), nil, 9)
}

func TestHowManyArgs(t *testing.T) {
	m := three(t)
	for f, takes := range []int{0, 4, 1} {
		for count := range 8 {
			args := make([]int64, count)
			if count != takes {
				mayNotRun(t, m, f, args, 9)
				mayNotRun(t, m, f, append(make([]int64, 0, 20), args...), 9)
				continue
			}
			outcome(t, m, f, args, 9)
		}
	}
	outcome(t, m, 0, []int64{}, 9)
	outcome(t, m, 0, nil, 9)
	mayNotRun(t, m, 1, nil, 9)
}

func TestArgsThatAreNoSmalls(t *testing.T) {
	m := three(t)
	for _, n := range []int64{1 << 31, -1<<31 - 1, 1<<32 - 1, 1 << 32, -1 << 32, 1<<32 + 5, math.MaxInt64, math.MinInt64} {
		mayNotRun(t, m, 2, []int64{n}, 9)
		mayNotRun(t, m, 1, []int64{n, 0, 0, 0}, 9)
		mayNotRun(t, m, 1, []int64{0, 0, n, 0}, 9)
		if got, want := outcome(t, m, 1, []int64{7, n, 8, -n}, 9), fmt.Sprintf("Done 4 [%d 7 %d]", -n, n); got != want {
			t.Errorf("P6: the wides %d and %d: %s, want %s", n, -n, got, want)
		}
	}
}

func TestArgsThatMayBe(t *testing.T) {
	m := three(t)
	for _, small := range []int64{0, 1, -1, 1<<31 - 1, -1 << 31} {
		if got, want := outcome(t, m, 2, []int64{small}, 9), fmt.Sprintf("Done 2 [%d]", small); got != want {
			t.Errorf("P6: the small %d: %s, want %s", small, got, want)
		}
		for _, wide := range []int64{0, 1 << 31, math.MaxInt64, math.MinInt64} {
			if got, want := outcome(t, m, 1, []int64{small, wide, 3, wide - 1}, 9), fmt.Sprintf("Done 4 [%d %d %d]", wide-1, small, wide); got != want {
				t.Errorf("P6: %d and %d: %s, want %s", small, wide, got, want)
			}
		}
	}
}

func TestFuelThatMayBe(t *testing.T) {
	m := three(t)
	for _, fuel := range []int{-1, -2, 100001, 100002, math.MinInt, math.MaxInt} {
		mayNotRun(t, m, 0, nil, fuel)
		mayNotRun(t, m, 2, []int64{1}, fuel)
	}
	for fuel, want := range map[int]string{0: "Fuel 0 []", 1: "Fuel 1 []", 2: "Done 2 [5]", 99999: "Done 2 [5]", 100000: "Done 2 [5]"} {
		if got := outcome(t, m, 2, []int64{5}, fuel); got != want {
			t.Errorf("P6: fuel %d: %s, want %s", fuel, got, want)
		}
	}
	forever := program(t, part{"", "", "", "loop 0 go 0 end end"})
	for _, fuel := range []int{0, 1, 2, 3, 99999, 100000} {
		if got, want := outcome(t, forever, 0, nil, fuel), fmt.Sprintf("Fuel %d []", fuel); got != want {
			t.Errorf("P6: a run without an end with fuel %d: %s, want %s", fuel, got, want)
		}
	}
}

// Whatever else is wrong: on a Module that is none it is ErrClosed.
func TestSeveralThatMayNotBeAsked(t *testing.T) {
	m := three(t)
	mayNotRun(t, m, -1, nil, -1)
	mayNotRun(t, m, 3, []int64{1 << 40}, 100001)
	mayNotRun(t, m, 1, []int64{1 << 40}, 100001)
	var none *treadle.Module
	for _, fuel := range []int{-1, 0, 100001} {
		for _, f := range []int{-1, 0, 3} {
			if o, e := none.Run(f, []int64{1 << 40}, fuel); e != api.ErrClosed || told(o) != "Done 0 []" {
				t.Errorf("P1: Run(%d, .., %d) on none: %v, %d", f, fuel, o, e)
			}
		}
	}
}

func TestLocalsAreArgsThenZeros(t *testing.T) {
	m := program(t,
		part{"ws", "wsw", "wsw", "get 2 get 3 get 4 end"},
		part{"ws", "sw", "wsw", "get 1 get 0 end"},
		part{"swswsw", "sws", "ssssssss", "get 4 get 5 get 13 end"},
	)
	for f, want := range []string{"Done 4 [0 0 0]", "Done 3 [-6 9]"} {
		if got := outcome(t, m, f, []int64{9, -6}, 9); got != want {
			t.Errorf("P6: function %d: %s, want %s", f, got, want)
		}
	}
	if got := outcome(t, m, 2, []int64{1, 2, 3, 4, 5, 6}, 9); got != "Done 4 [5 6 0]" {
		t.Errorf("P6: %s", got)
	}
}

func TestValuesAreInOrder(t *testing.T) {
	runs(t, "Done 1 []", nil, part{"", "", "", "end"})
	runs(t, "Done 2 [-7]", nil, part{"", "w", "", "wide=-7 end"})
	runs(t, "Done 4 [1 2 3]", nil, part{"", "sws", "", "small=1 wide=2 small=3 end"})
	runs(t, "Done 4 [-1 -2 -3]", nil, part{"", "wws", "", "wide=-1 wide=-2 small=-3 return end"})
}

// The document's first example.
func TestSum(t *testing.T) {
	m := isLoaded(t, []byte{'T', 'R', 1, 1, 2, 1, 1, 1, 1, 1, 0, 0, 0, 6, 14, 0, 14, 1, 30, 6})
	for fuel, want := range map[int]string{9: "Done 4 [12]", 4: "Done 4 [12]", 3: "Fuel 3 []"} {
		if got := outcome(t, m, 0, []int64{5, 7}, fuel); got != want {
			t.Errorf("P6: with fuel %d: %s, want %s", fuel, got, want)
		}
	}
}
