package treadle_test

import (
	"fmt"
	"strings"
	"testing"

	"treadle/api"
)

func TestEndOfABlock(t *testing.T) {
	for _, open := range []string{"block", "loop", "small if"} {
		other := ""
		if open == "small if" {
			other = "stop else "
		}
		mayBe(t,
			open+" 1 "+other+"small end set 0 end",
			open+" 2 "+other+"wide end set 1 end",
			open+" 7 "+other+"small wide end set 1 set 0 end",
			"small small "+open+" 3 "+other+"end set 0 set 0 end",
			"wide "+open+" 1 "+other+"small end set 0 set 1 end",
			"small "+open+" 4 "+other+"drop end end",
		)
		mayNotBe(t, api.ErrType,
			open+" 1 "+other+"! end stop end",
			open+" 1 "+other+"wide ! end stop end",
			open+" 1 "+other+"small small ! end stop end",
			open+" 1 "+other+"wide small ! end stop end",
			open+" 0 "+other+"small ! end stop end",
			open+" 7 "+other+"wide small ! end stop end",
			open+" 7 "+other+"wide ! end stop end",
			open+" 7 "+other+"small small wide ! end stop end",
			"small "+open+" 1 "+other+"! end stop end",
			"small "+open+" 4 "+other+"! end stop end",
			open+" 1 "+other+"small end ! set 1 end",
			open+" 2 "+other+"wide end ! set 0 end",
			open+" 1 "+other+"small end ! end",
			open+" 0 "+other+"end ! drop end",
		)
	}
}

func TestEndOfAFunction(t *testing.T) {
	answersIn(t, sGiveSW, api.OK, "small wide end")
	for _, text := range []string{"! end", "small ! end", "wide ! end", "wide small ! end", "small small ! end", "wide wide ! end", "small small wide ! end", "small wide small ! end"} {
		answersIn(t, sGiveSW, api.ErrType, text)
	}
	mayBe(t, "end", "nothing end")
	mayNotBe(t, api.ErrType, "small ! end", "wide ! end")
	// What a function takes lies in its locals, not on its stack.
	answersIn(t, sSToS, api.ErrType, "! end")
	answersIn(t, sSToS, api.OK, "get 0 end")
	answersIn(t, sSToNone, api.OK, "end")
}

func TestElse(t *testing.T) {
	mayBe(t,
		"small if 0 else end end",
		"small if 1 small else small end set 0 end",
		"small if 7 small wide else small wide end set 1 set 0 end",
		"small wide small if 5 set 1 set 0 wide else set 1 set 0 wide end set 1 end",
		"wide small small if 6 set 0 set 1 small wide small else set 0 set 1 small wide small end set 0 set 1 set 0 end",
		"small small if 4 drop else drop end end",
	)
	mayNotBe(t, api.ErrType,
		"small if 1 ! else small end stop end",
		"small if 1 wide ! else small end stop end",
		"small if 1 small small ! else small end stop end",
		"small if 0 small ! else end stop end",
		"small if 7 wide small ! else stop end stop end",
		"small if 7 small wide wide ! else stop end stop end",
		"small small if 1 ! else small end stop end",
		"small small if 4 ! else drop end stop end",
		"small small if 4 drop else ! end stop end",
		"small wide small if 5 set 1 set 0 wide else ! set 0 stop end stop end",
		"small wide small if 5 set 1 set 0 wide else set 1 ! set 1 stop end stop end",
		"small wide small if 5 set 1 set 0 wide else set 1 set 0 ! drop stop end stop end",
		"small if 1 small else ! drop small end stop end",
	)
}

func TestIfWithoutElse(t *testing.T) {
	// Of these signatures only 0 and 3 take what they give.
	mayBe(t, "small if 0 end end", "small small if 3 end set 0 end", "small if 0 stop end end")
	mayNotBe(t, api.ErrType,
		"small if 1 small ! end stop end",
		"small if 2 stop ! end stop end",
		"small small if 4 drop ! end stop end",
		"small wide small if 5 set 1 set 0 wide ! end stop end",
		"wide small small if 6 stop ! end stop end",
		"stop if 7 stop ! end stop end",
	)
	mayBe(t,
		"small if 1 small else small end drop end",
		"small if 2 stop else stop end drop end",
		"small small if 4 drop else drop end end",
	)
}

// An if whose signature takes and gives as many, but of other types, or the same ones in another order.
func TestIfWithoutElseOfOtherTypes(t *testing.T) {
	for _, c := range []struct {
		s     signature
		errno api.Errno
	}{
		{signature{[]int{1}, []int{2}}, api.ErrType},
		{signature{[]int{1, 2}, []int{2, 1}}, api.ErrType},
		{signature{[]int{1, 2}, []int{1}}, api.ErrType},
		{signature{[]int{1}, []int{1, 2}}, api.ErrType},
		{signature{[]int{1, 2}, []int{1, 2}}, api.OK},
		{signature{[]int{2, 1, 2}, []int{2, 1, 2}}, api.OK},
	} {
		b := build([]signature{{nil, nil}, c.s}, []function{{0, nil, []byte{0, 4, 1, 0, 6, 0, 6}}})
		if c.errno == api.OK {
			isLoaded(t, b.bytes)
			continue
		}
		isRefused(t, b.bytes, c.errno, b.starts[0]+4)
		isLoaded(t, build([]signature{{nil, nil}, c.s}, []function{{0, nil, []byte{0, 4, 1, 0, 5, 0, 6, 0, 6}}}).bytes)
	}
}

// A label wants what its frame's signature gives, but of a loop what it takes: signature 5 takes a small and a wide, and gives a wide.
func TestWhatALabelWants(t *testing.T) {
	for _, c := range []struct{ open, close, wants string }{
		{"small wide block 5 set 1 set 0 ", "end stop end", "w"},
		{"small wide small if 5 set 1 set 0 ", "else stop end stop end", "w"},
		{"small wide small if 5 stop else set 1 set 0 ", "end stop end", "w"},
		{"small wide loop 5 set 1 set 0 ", "end stop end", "sw"},
		{"block 7 ", "end stop end", "sw"},
		{"loop 7 ", "end stop end", ""},
		{"small loop 4 set 0 ", "end stop end", "s"},
		{"small block 4 set 0 ", "end stop end", ""},
	} {
		for _, inner := range []string{"", "block 0 ", "loop 0 ", "small if 0 ", "small if 0 else block 0 "} {
			depth := strings.Count(inner, "block") + strings.Count(inner, "loop") + strings.Count(inner, "if")
			open, end := c.open+inner, strings.Repeat("stop end ", depth)+"stop "+c.close
			for _, jump := range []struct{ name, more string }{{"go", ""}, {"goif", "s"}, {"goby 0", "s"}, {fmt.Sprintf("goby 1 %d", depth), "s"}} {
				op := fmt.Sprintf("%s %d ", jump.name, depth)
				takes := c.wants + jump.more
				mayBe(t, open+pushes(takes)+op+end, open+pushes("ws"+takes)+op+end)
				for i := range takes {
					mayNotBe(t, api.ErrType, open+pushes(takes[i+1:])+"! "+op+end, open+pushes(swapped(takes, i))+"! "+op+end)
				}
			}
			back := fmt.Sprintf("goif %d %s ! drop ", depth, pops(c.wants))
			mayNotBe(t, api.ErrType, open+pushes(c.wants+"s")+back+end)
		}
	}
}

func TestLabelsOfGoByThatWantOtherTypes(t *testing.T) {
	// The frames, from the innermost one on: a loop that wants a small, a block that wants nothing, one a small and a wide, a loop nothing, a block a wide, one a small; the function wants nothing.
	open, end := "block 1 block 2 loop 7 block 7 block 0 small loop 4 ", strings.Repeat("stop end ", 7)
	wants := []string{"s", "", "sw", "", "w", "s", ""}
	for a := range wants {
		for b := range wants {
			for c := range wants {
				op := fmt.Sprintf("goby 2 %d %d %d ", a, b, c)
				if wants[a] == wants[b] && wants[b] == wants[c] {
					mayBe(t, open+pushes(wants[a]+"s")+op+end, open+"stop "+op+end)
					continue
				}
				mayNotBe(t, api.ErrType, open+pushes("swsws")+"! "+op+end, open+"stop ! "+op+end)
			}
		}
	}
}

func TestEveryPlaceOfALabelThatWantsOtherTypes(t *testing.T) {
	for n := 1; n <= 10; n++ {
		for i := range n + 1 {
			labels := strings.Fields(strings.Repeat("0 ", n+1))
			labels[i] = "1"
			mayNotBe(t, api.ErrType, fmt.Sprintf("block 1 small small ! goby %d %s end drop end", n, strings.Join(labels, " ")))
		}
	}
}

// Signatures that are the same, but other ones by number, want the same.
func TestLabelsOfSignaturesThatAreTheSame(t *testing.T) {
	b := build([]signature{{nil, nil}, {nil, []int{2, 1}}, {[]int{2}, []int{2, 1}}}, []function{{0, nil, []byte{0, 2, 1, 0, 2, 2, 0, 9, 1, 0, 1, 6, 6, 0, 6}}})
	isLoaded(t, b.bytes)
}

func TestDeadFrames(t *testing.T) {
	for _, dead := range []string{"stop ", "go 0 ", "small goby 0 0 ", "return ", "small wide stop ", "wide go 0 ", "small small goby 1 0 0 ", "wide return "} {
		mayBe(t,
			dead+"end",
			dead+"add drop end",
			dead+"wadd set 1 end",
			dead+"small add set 0 end",
			dead+"drop drop drop end",
			dead+"call 1 set 1 end",
			dead+"if 5 stop else stop end set 1 end",
			dead+"tee 1 set 1 end",
			dead+"block 0 end drop end",
			dead+dead+"drop end",
		)
		mayNotBe(t, api.ErrType,
			dead+"wide ! add stop end",
			dead+"small wide ! add stop end",
			dead+"wide small ! add stop end",
			dead+"small ! wadd stop end",
			dead+"small ! end",
			dead+"wide small ! set 1 stop end",
			dead+"drop small ! end",
			dead+"tee 1 ! set 0 end",
			dead+"add ! wzero stop end",
			// A frame that is opened there is not dead itself.
			dead+"block 0 ! drop end end",
			dead+"loop 0 ! add stop end end",
			dead+"if 0 ! drop end end",
			dead+"block 5 drop drop ! drop stop end stop end",
		)
	}
}

func TestOnlyTheInnermostFrameIsDead(t *testing.T) {
	for _, dead := range []string{"stop ", "go 0 ", "go 1 ", "small goby 1 0 1 ", "return "} {
		mayBe(t,
			"block 0 "+dead+"drop end end",
			"small block 0 "+dead+"drop drop end set 0 end",
			"wide loop 0 "+dead+"end set 1 end",
			"small if 0 "+dead+"add drop else end end",
			"block 0 "+dead+"block 0 end drop end end",
		)
		mayNotBe(t, api.ErrType,
			"block 0 "+dead+"end ! drop end",
			"loop 0 "+dead+"end ! drop end",
			"small if 0 "+dead+"end ! drop end",
			"small if 0 else "+dead+"end ! drop end",
			"block 0 block 0 "+dead+"end ! drop end end",
			"small block 0 "+dead+"end ! end",
		)
	}
}

func TestAnElseIsAliveAgain(t *testing.T) {
	for _, dead := range []string{"stop ", "return ", "go 1 ", "small goby 0 1 "} {
		mayBe(t,
			"small if 1 "+dead+"else small end set 0 end",
			"small if 1 small else "+dead+"end set 0 end",
			"small if 1 "+dead+"else "+dead+"end set 0 end",
			"small small if 3 "+dead+"else end set 0 end",
		)
		mayNotBe(t, api.ErrType,
			"small if 1 "+dead+"else ! end stop end",
			"small if 0 "+dead+"else ! drop end end",
			"small if 0 "+dead+"else ! add stop end end",
			"small small if 4 "+dead+"else drop ! drop end end",
			"small small if 4 "+dead+"else ! end end",
			"small if 1 "+dead+"wide ! else small end stop end",
			"small if 1 "+dead+"small small ! else small end stop end",
		)
	}
}

// A goif, unlike a go, is gone on behind.
func TestGoIfLeavesTheFrameAlive(t *testing.T) {
	mayNotBe(t, api.ErrType, "small goif 0 ! drop end", "small small goif 0 ! end", "block 1 small small goif 0 drop ! drop stop end stop end")
	mayBe(t, "wide small goif 0 set 1 end", "block 1 small small goif 0 end set 0 end", "stop goif 0 drop end")
}
