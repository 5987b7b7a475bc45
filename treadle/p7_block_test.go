package treadle_test

import (
	"fmt"
	"math"
	"strings"
	"testing"
)

func TestPlainOnes(t *testing.T) {
	does(t, "Done 4 [9]", 0, "nothing nothing small=9 end")
	does(t, "Done 4 [1]", 0, "small=1 wide=2 drop end")
	does(t, "Done 4 [1]", 0, "small=1 small=2 drop end")
	does(t, "Done 2 [5]", 5, "get 0 end")
	does(t, "Done 2 [0]", 5, "get 1 end")
	does(t, "Done 4 [7]", 5, "small=7 set 1 get 1 end")
	does(t, "Done 4 [7]", 5, "small=7 set 0 get 0 end")
	does(t, "Done 4 [5]", 5, "small=7 set 1 get 0 end")
	does(t, "Done 4 [0]", 5, "small=7 set 0 get 1 end")
	does(t, "Done 3 [7]", 5, "small=7 tee 1 end")
	does(t, "Done 5 [14]", 5, "small=7 tee 1 get 1 add end")
	does(t, "Done 5 [12]", 5, "small=7 tee 1 get 0 add end")
	does(t, "Done 7 [-2]", 5, "wide=4294967294 tee 2 drop get 2 narrow nothing end")
	does(t, "Done 5 [3]", 5, "small=1 small=2 set 1 small=3 return end")
}

func TestWhichIsPicked(t *testing.T) {
	for arg, want := range map[int64]int{0: 20, 1: 10, -1: 10, 2: 10, math.MinInt32: 10, math.MaxInt32: 10} {
		does(t, fmt.Sprintf("Done 5 [%d]", want), arg, "small=10 small=20 get 0 pick end")
		does(t, fmt.Sprintf("Done 6 [%d]", want), arg, "wide=10 wide=20 get 0 pick narrow end")
		does(t, fmt.Sprintf("Done 7 [%d]", 100+want), arg, "small=100 small=10 small=20 get 0 pick add end")
	}
}

func TestBlocksThatNothingLeaves(t *testing.T) {
	does(t, "Done 6 [9]", 0, "block 0 end loop 0 end small=9 end")
	does(t, "Done 6 [9]", 0, "block 0 loop 0 end end small=9 end")
	does(t, "Done 7 [3]", 0, "small=1 block 2 small=2 add nothing end end")
	does(t, "Done 7 [3]", 0, "small=1 loop 2 small=2 add nothing end end")
	does(t, "Done 7 [-4]", 0, "small=1 small=5 block 6 sub nothing end end")
	does(t, "Done 7 [107]", 0, "small=100 block 1 small=7 end add nothing end")
}

func TestIf(t *testing.T) {
	for _, arg := range []int64{1, -1, 256, math.MinInt32, math.MaxInt32} {
		does(t, "Done 6 [9]", arg, "get 0 if 0 nothing end small=9 end")
		does(t, "Done 5 [9]", arg, "get 0 if 0 end small=9 end")
		does(t, "Done 7 [41]", arg, "small=40 get 0 if 2 small=1 add end end")
		does(t, "Done 7 [141]", arg, "small=100 small=41 get 0 if 2 end add end")
	}
	does(t, "Done 4 [9]", 0, "get 0 if 0 nothing end small=9 end")
	does(t, "Done 4 [9]", 0, "get 0 if 0 end small=9 end")
	does(t, "Done 4 [40]", 0, "small=40 get 0 if 2 small=1 add end end")
	does(t, "Done 6 [141]", 0, "small=100 small=41 get 0 if 2 end add end")
}

func TestIfWithElse(t *testing.T) {
	for _, arg := range []int64{1, -1, 256, math.MinInt32, math.MaxInt32} {
		does(t, "Done 6 [9]", arg, "get 0 if 0 nothing else nothing nothing end small=9 end")
		does(t, "Done 5 [9]", arg, "get 0 if 0 else end small=9 end")
		does(t, "Done 5 [5]", arg, "get 0 if 1 small=5 else small=6 end end")
		does(t, "Done 7 [2]", arg, "small=7 small=5 get 0 if 6 sub else mul end end")
		does(t, "Done 9 [102]", arg, "small=100 small=7 small=5 get 0 if 6 sub else mul end add end")
	}
	does(t, "Done 7 [9]", 0, "get 0 if 0 nothing else nothing nothing end small=9 end")
	does(t, "Done 5 [9]", 0, "get 0 if 0 else end small=9 end")
	does(t, "Done 5 [6]", 0, "get 0 if 1 small=5 else small=6 end end")
	does(t, "Done 7 [35]", 0, "small=7 small=5 get 0 if 6 sub else mul end end")
	does(t, "Done 9 [135]", 0, "small=100 small=7 small=5 get 0 if 6 sub else mul end add end")
}

// An else and an end belong to the innermost block that is open.
func TestIfsInOneAnother(t *testing.T) {
	inFirst := "get 0 if 0 get 1 if 0 nothing else nothing nothing end nothing end small=9 end"
	does(t, "Done 11 [9]", 1, inFirst)
	does(t, "Done 4 [9]", 0, inFirst)
	ahead := "get 0 if 0 get 1 if 0 nothing end else nothing end small=9 end"
	does(t, "Done 7 [9]", 1, ahead)
	does(t, "Done 6 [9]", 0, ahead)
	inBoth := "get 0 if 1 get 0 if 1 small=1 else small=2 end else get 0 if 1 small=3 else small=4 end end end"
	does(t, "Done 8 [1]", 1, inBoth)
	does(t, "Done 8 [4]", 0, inBoth)
	withBlocks := "get 0 if 0 block 0 end loop 0 nothing end else block 0 end end small=9 end"
	does(t, "Done 10 [9]", 1, withBlocks)
	does(t, "Done 7 [9]", 0, withBlocks)
}

func TestGoToBlock(t *testing.T) {
	does(t, "Done 5 [9]", 0, "block 0 nothing go 0 nothing end small=9 end")
	does(t, "Done 4 [5]", 0, "block 1 small=5 go 0 end end")
	does(t, "Done 6 [3]", 0, "block 1 small=1 small=2 small=3 go 0 end end")
	does(t, "Done 6 [100]", 0, "small=100 block 0 small=1 wide=2 go 0 end end")
	does(t, "Done 10 [33]", 0, "small=10 small=20 block 1 small=1 small=2 small=3 go 0 end add add end")
	does(t, "Done 11 [107]", 0, "small=100 block 3 small=1 wide=2 small=3 wide=4 go 0 end narrow add add end")
}

// What a block takes stands within it: its height is below that.
func TestGoToBlockThatTakes(t *testing.T) {
	does(t, "Done 6 [9]", 0, "small=7 small=5 block 6 small=9 go 0 end end")
	does(t, "Done 5 [5]", 0, "small=7 small=5 block 6 go 0 end end")
	does(t, "Done 8 [109]", 0, "small=100 small=7 small=5 block 6 small=9 go 0 end add end")
	does(t, "Done 5 [100]", 0, "small=100 small=7 block 5 go 0 end end")
	does(t, "Done 9 [125]", 0, "small=100 small=20 wide=5 block 4 go 0 end narrow add add end")
}

func TestGoAcrossFrames(t *testing.T) {
	does(t, "Done 11 [102]", 0, "small=100 block 1 small=200 block 0 small=300 block 0 small=1 small=2 go 2 end drop end end add end")
	does(t, "Done 13 [202]", 0, "block 1 small=200 block 1 small=300 block 0 small=1 small=2 go 1 end end add end nothing nothing end")
	does(t, "Done 9 [3]", 1, "small=100 get 0 if 2 small=1 block 0 small=2 small=3 go 1 end add end end")
	does(t, "Done 4 [100]", 0, "small=100 get 0 if 2 small=1 block 0 small=2 small=3 go 1 end add end end")
	most := strings.Repeat("small=7 block 0 ", 12) + "small=8 go 11 " + strings.Repeat("end drop ", 12) + "small=9 end"
	does(t, "Done 29 [9]", 0, most)
}

func TestGoToLoop(t *testing.T) {
	does(t, "Done 19 [0]", 3, "loop 0 get 0 small=1 sub tee 0 goif 0 end get 0 end")
	does(t, "Done 19 [0]", 3, "get 0 loop 2 small=1 sub tee 1 get 1 goif 0 end end")
	does(t, "Done 19 [0]", 2, "get 0 loop 5 tee 0 if 0 get 0 small=1 sub go 1 end end get 0 end")
	does(t, "Done 23 [105]", 2, "small=100 get 0 loop 2 tee 1 if 0 small=77 get 1 small=1 sub go 1 end small=5 end add end")
	does(t, "Done 23 [9]", 2, "block 0 loop 0 get 0 zero goif 1 get 0 small=1 sub set 0 go 0 end end small=9 end")
}

// A loop within a loop begins anew each time.
func TestLoopsInOneAnother(t *testing.T) {
	text := "loop 0 small=2 set 1 loop 0 get 1 small=1 sub tee 1 goif 0 end get 0 small=1 sub tee 0 goif 0 end get 1 end"
	does(t, fmt.Sprintf("Done %d [0]", 1+3*(2+1+2*5+1+5)+3), 3, text)
}

func TestGoToIf(t *testing.T) {
	does(t, "Done 6 [9]", 1, "get 0 if 0 nothing go 0 nothing end small=9 end")
	does(t, "Done 6 [2]", 1, "get 0 if 1 small=1 small=2 go 0 else small=3 small=4 go 0 end end")
	does(t, "Done 6 [4]", 0, "get 0 if 1 small=1 small=2 go 0 else small=3 small=4 go 0 end end")
	does(t, "Done 9 [102]", 1, "small=100 small=50 get 0 if 2 small=2 nothing go 0 else nothing end add end")
	does(t, "Done 8 [150]", 0, "small=100 small=50 get 0 if 2 small=2 nothing go 0 else nothing end add end")
}

func TestGoIf(t *testing.T) {
	for _, arg := range []int64{1, -1, 256, math.MinInt32, math.MaxInt32} {
		does(t, "Done 5 [9]", arg, "block 0 get 0 goif 0 nothing end small=9 end")
		does(t, "Done 8 [102]", arg, "small=100 block 1 small=1 small=2 get 0 goif 0 drop end add end")
		does(t, "Done 4 [2]", arg, "small=1 small=2 get 0 goif 0 add end")
		does(t, "Done 6 [2]", arg, "block 0 loop 0 small=1 small=2 get 0 goif 2 drop drop end end small=9 end")
	}
	does(t, "Done 7 [9]", 0, "block 0 get 0 goif 0 nothing end small=9 end")
	does(t, "Done 10 [101]", 0, "small=100 block 1 small=1 small=2 get 0 goif 0 drop end add end")
	does(t, "Done 6 [3]", 0, "small=1 small=2 get 0 goif 0 add end")
	does(t, "Done 12 [9]", 0, "block 0 loop 0 small=1 small=2 get 0 goif 2 drop drop end end small=9 end")
}

func TestGoIfToLoopAndIf(t *testing.T) {
	does(t, "Done 20 [0]", 2, "get 0 loop 2 small=1 sub tee 1 small=5 get 1 get 1 goif 0 drop drop end end")
	toIf := "small=100 small=50 get 0 if 2 small=2 get 0 small=1 sub goif 0 drop end add end"
	does(t, "Done 13 [150]", 1, toIf)
	does(t, "Done 11 [102]", 2, toIf)
	does(t, "Done 6 [150]", 0, toIf)
	inElse := "get 0 if 1 small=1 else small=2 small=3 small=1 goif 0 sub end end"
	does(t, "Done 5 [1]", 1, inElse)
	does(t, "Done 7 [3]", 0, inElse)
}

// To go to the function's label is to return: its end is not come to.
func TestGoToFunction(t *testing.T) {
	does(t, "Done 2 [1]", 0, "small=1 go 0 end")
	does(t, "Done 4 [2]", 0, "small=1 wide=7 small=2 go 0 end")
	does(t, "Done 6 [6]", 0, "small=1 block 0 loop 0 small=5 small=6 go 2 end end end")
	does(t, "Done 4 [8]", 1, "get 0 if 0 small=8 go 1 end small=9 end")
	does(t, "Done 4 [9]", 0, "get 0 if 0 small=8 go 1 end small=9 end")
	runs(t, "Done 1 []", nil, part{"", "", "", "go 0 end"})
	runs(t, "Done 6 [3 4 5]", nil, part{"", "sws", "", "small=1 small=2 small=3 wide=4 small=5 go 0 end"})
}

func TestGoBy(t *testing.T) {
	three := "block 0 block 0 block 0 get 0 goby 2 0 1 2 end small=10 return end small=20 return end small=30 end"
	kept := "small=100 block 1 block 1 small=1 small=2 get 0 goby 1 0 1 end small=10 add end add end"
	for arg, wants := range map[int64][2]string{
		0: {"Done 7 [10]", "Done 12 [112]"},
		1: {"Done 7 [20]", "Done 9 [102]"}, 2: {"Done 7 [30]", "Done 9 [102]"}, 3: {"Done 7 [30]", "Done 9 [102]"}, 4: {"Done 7 [30]", "Done 9 [102]"}, 256: {"Done 7 [30]", "Done 9 [102]"},
		-1: {"Done 7 [30]", "Done 9 [102]"}, -2: {"Done 7 [30]", "Done 9 [102]"}, math.MinInt32: {"Done 7 [30]", "Done 9 [102]"}, math.MaxInt32: {"Done 7 [30]", "Done 9 [102]"},
	} {
		does(t, wants[0], arg, three)
		does(t, wants[1], arg, kept)
		does(t, "Done 5 [9]", arg, "block 0 get 0 goby 0 0 end small=9 end")
	}
}

func TestGoByToAllKinds(t *testing.T) {
	all := part{"s", "", "", "block 0 loop 0 get 0 small=1 sub tee 0 goby 2 1 2 0 end end nothing end"}
	runs(t, "Done 9 []", []int64{1}, all)
	runs(t, "Done 7 []", []int64{2}, all)
	runs(t, "Done 22 []", []int64{5}, all)
	toIf := "get 0 if 0 get 0 small=1 sub goby 1 0 0 else get 0 goby 0 0 end small=9 end"
	does(t, "Done 8 [9]", 1, toIf)
	does(t, "Done 6 [9]", 0, toIf)
}

// As many labels as there may be.
func TestGoByOfEleven(t *testing.T) {
	text := strings.Repeat("block 0 ", 11) + "get 0 goby 10 0 1 2 3 4 5 6 7 8 9 10 "
	for i := range 11 {
		text += fmt.Sprintf("end small=%d return ", 100+i)
	}
	for arg := range int64(14) {
		does(t, fmt.Sprintf("Done 15 [%d]", 100+min(arg, 10)), arg, text+"end")
	}
	does(t, "Done 15 [110]", -1, text+"end")
}

func TestReturn(t *testing.T) {
	does(t, "Done 2 [1]", 0, "small=1 return end")
	does(t, "Done 3 [2]", 0, "small=1 small=2 return end")
	does(t, "Done 8 [5]", 0, "small=1 block 0 small=2 loop 0 small=3 wide=4 small=5 return end drop end end")
	does(t, "Done 4 [8]", 1, "get 0 if 0 small=8 return else small=9 return end stop end")
	does(t, "Done 4 [9]", 0, "get 0 if 0 small=8 return else small=9 return end stop end")
	runs(t, "Done 6 [3 4 5]", nil, part{"", "sws", "", "small=1 small=2 small=3 wide=4 small=5 return end"})
	runs(t, "Done 3 []", nil, part{"", "", "", "small=1 wide=2 return end"})
}

// Behind what leads elsewhere stands code that is never come to, whatever it would do.
func TestDeadCode(t *testing.T) {
	does(t, "Done 4 [9]", 0, "block 0 go 0 add drop wdiv drop block 3 go 1 end stop end small=9 end")
	does(t, "Done 2 [9]", 0, "small=9 return if 0 loop 0 go 0 end else stop end call 0 end")
	does(t, "Done 5 [9]", 0, "block 1 small=9 go 0 block 0 block 0 small go 2 end end drop small end nothing end")
}
