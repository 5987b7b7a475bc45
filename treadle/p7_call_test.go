package treadle_test

import (
	"fmt"
	"testing"
)

func TestWhatIsCalledTakesAndGives(t *testing.T) {
	runs(t, "Done 8 [7 5 8]", []int64{5, 7},
		part{"sw", "wsw", "", "get 0 get 1 call 1 end"},
		part{"sw", "wsw", "", "get 1 get 0 wide=8 end"})
	runs(t, "Done 10 [99]", nil,
		part{"", "s", "", "small=100 small=1 small=2 call 1 add end"},
		part{"ss", "s", "", "get 0 get 1 sub end"})
	runs(t, "Done 4 [9]", nil,
		part{"", "s", "", "call 1 small=9 end"},
		part{"", "", "", "end"})
	runs(t, "Done 9 [6 1 2]", nil,
		part{"", "sss", "", "small=6 call 1 end"},
		part{"", "ss", "", "call 2 small=2 end"},
		part{"", "s", "", "small=1 nothing return end"})
	runs(t, "Done 12 [5 6 3]", nil,
		part{"", "sws", "", "small=1 wide=2 small=3 wide=4 small=5 wide=6 call 1 end"},
		part{"swswsw", "sws", "", "get 4 get 5 get 2 end"})
}

// What is called may leave more on its stack than it gives; what stands on the caller's is untouched.
func TestReturnToCaller(t *testing.T) {
	for _, text := range []string{
		"small=2 nothing nothing end",
		"small=1 wide=7 small=2 return end",
		"small=1 wide=7 small=2 go 0 end",
		"block 0 nothing small=2 return end small=8 end",
	} {
		runs(t, "Done 8 [12]", nil,
			part{"", "s", "", "small=10 call 1 add end"},
			part{"", "s", "", text})
	}
	runs(t, "Done 10 [102]", nil,
		part{"", "s", "", "small=100 block 1 small=50 small=1 call 1 go 0 end add end"},
		part{"s", "s", "", "small=2 return end"})
}

func TestLocalsOfCalls(t *testing.T) {
	runs(t, "Done 16 [11]", nil,
		part{"", "s", "", "small=5 call 1 small=6 call 1 add end"},
		part{"s", "s", "s", "get 1 get 0 add tee 1 end"})
	runs(t, "Done 12 [7]", nil,
		part{"", "s", "ss", "small=7 set 1 small=9 call 1 drop get 1 end"},
		part{"s", "s", "s", "small=55 set 0 small=66 tee 1 end"})
	runs(t, "Done 9 [5]", []int64{5},
		part{"s", "s", "", "get 0 call 1 drop get 0 end"},
		part{"s", "s", "", "small=66 set 0 get 0 end"})
	runs(t, "Done 26 [0 0 0]", nil,
		part{"", "sws", "", "call 1 drop drop drop call 1 end"},
		part{"", "sws", "sws", "get 0 get 1 get 2 small=7 set 0 wide=7 set 1 small=7 set 2 end"})
}

func TestFunctionThatCallsItself(t *testing.T) {
	sum := part{"s", "s", "", "get 0 get 0 if 2 small=1 sub call 0 get 0 add end end"}
	for n := range int64(41) {
		runs(t, fmt.Sprintf("Done %d [%d]", 4+10*n, n*(n+1)/2), []int64{n}, sum)
	}
	runs(t, "Done 1943 [55]", []int64{10}, part{"s", "s", "", "get 0 small=2 less if 1 get 0 else get 0 small=1 sub call 0 get 0 small=2 sub call 0 add end end"})
}

func TestTwoThatCallEachOther(t *testing.T) {
	even := part{"s", "s", "", "get 0 if 1 get 0 small=1 sub call 1 else small=1 end end"}
	odd := part{"s", "s", "", "get 0 if 1 get 0 small=1 sub call 0 else small=0 end end"}
	for n := range int64(41) {
		runs(t, fmt.Sprintf("Done %d [%d]", 5+8*n, 1-n%2), []int64{n}, even, odd)
	}
	runs(t, "Deep 246 []", []int64{41}, even, odd)
}

// Every function of a module may be called, whether it stands ahead or behind.
func TestCallsOfAll(t *testing.T) {
	var parts []part
	for i := range 13 {
		parts = append(parts, part{"s", "s", "", fmt.Sprintf("get 0 if 1 small=0 call %d small=%d add else small=%d end end", (i+5)%13, i, 100*i)})
	}
	m := program(t, parts...)
	for f := range parts {
		if got, want := outcome(t, m, f, []int64{1}, 99), fmt.Sprintf("Done 13 [%d]", 100*((f+5)%13)+f); got != want {
			t.Errorf("P7: function %d: %s, want %s", f, got, want)
		}
	}
}

// Calls one after another do not wait for each other.
func TestManyCalls(t *testing.T) {
	runs(t, "Done 704 [0]", []int64{100},
		part{"s", "s", "", "loop 0 call 1 get 0 small=1 sub tee 0 goif 0 end get 0 end"},
		part{"", "", "", "end"})
}
