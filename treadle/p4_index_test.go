package treadle_test

import (
	"fmt"
	"strings"
	"testing"

	"treadle/api"
)

// Behind a stop any types are there, so that nothing but the index can be wrong.
func TestIndexesThatThereAreNot(t *testing.T) {
	for _, c := range []struct {
		text, behind string
		count        int
	}{
		{"block %d", "stop end stop", sCount},
		{"loop %d", "stop end stop", sCount},
		{"if %d", "stop else stop end stop", sCount},
		{"call %d", "stop", 3},
		{"get %d", "stop", 2},
		{"set %d", "stop", 2},
		{"tee %d", "stop", 2},
		{"go %d", "", 1},
		{"goif %d", "stop", 1},
		{"goby 0 %d", "", 1},
	} {
		for index := range 256 {
			text := fmt.Sprintf(c.text, index)
			if index < c.count {
				mayBe(t, "stop "+text+" "+c.behind+" end")
				continue
			}
			mayNotBe(t, api.ErrIndex, "stop ! "+text+" "+c.behind+" end")
		}
	}
}

func TestLocalsOfAFunctionThatTakes(t *testing.T) {
	answersIn(t, sWSToSWS, api.OK, "get 0 set 3 get 1 set 2 get 1 get 3 get 2 end")
	answersIn(t, sWSToSWS, api.ErrType, "get 0 ! set 2 stop end")
	answersIn(t, sWSToSWS, api.ErrType, "get 1 ! set 3 stop end")
	for _, name := range []string{"get", "set", "tee"} {
		answersIn(t, sWSToSWS, api.ErrIndex, "stop ! "+name+" 4 stop end")
		answersIn(t, sWSToSWS, api.ErrIndex, "stop ! "+name+" 255 stop end")
	}
}

func TestLabelsThatThereAreNot(t *testing.T) {
	for _, open := range []string{"block 0 ", "loop 0 ", "small if 0 ", "small if 0 else "} {
		for depth := range 13 {
			ahead, behind := strings.Repeat(open, depth), strings.Repeat(" end", depth+1)
			for _, name := range []string{"go", "small goif"} {
				mayBe(t, fmt.Sprintf("%s%s 0%s", ahead, name, behind), fmt.Sprintf("%s%s %d%s", ahead, name, depth, behind))
			}
			mayNotBe(t, api.ErrIndex,
				fmt.Sprintf("%s! go %d%s", ahead, depth+1, behind),
				fmt.Sprintf("%ssmall ! goif %d%s", ahead, depth+1, behind),
				fmt.Sprintf("%ssmall ! goby 0 %d%s", ahead, depth+1, behind),
			)
		}
	}
	mayNotBe(t, api.ErrIndex, "block 0 end ! go 1 end", "small if 0 else end small ! goif 1 end")
}

func TestAnyLabelOfGoBy(t *testing.T) {
	for n := range 11 {
		for wrong := range n + 1 {
			labels := strings.Fields(strings.Repeat("1 ", n+1))
			for _, label := range []string{"2", "3", "255"} {
				labels[wrong] = label
				mayNotBe(t, api.ErrIndex, fmt.Sprintf("block 0 small ! goby %d %s end end", n, strings.Join(labels, " ")))
			}
			labels[wrong] = "0"
			mayBe(t, fmt.Sprintf("block 0 small goby %d %s end end", n, strings.Join(labels, " ")))
		}
	}
}
