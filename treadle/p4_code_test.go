package treadle_test

import (
	"fmt"
	"strings"
	"testing"

	"treadle/api"
)

func TestBytesThatAreNoInstruction(t *testing.T) {
	known := map[byte]bool{}
	for _, b := range words {
		known[b] = true
	}
	if len(known) != 47 {
		t.Fatalf("%d instructions", len(known))
	}
	for b := range 256 {
		if known[byte(b)] {
			continue
		}
		mayNotBe(t, api.ErrCode,
			fmt.Sprintf("! %d", b),
			fmt.Sprintf("! %d end", b),
			fmt.Sprintf("small drop ! %d end", b),
			fmt.Sprintf("stop ! %d end", b),
			fmt.Sprintf("block 0 ! %d end end", b),
		)
	}
}

func TestGoByWithTooManyLabels(t *testing.T) {
	for n := range 256 {
		text := fmt.Sprintf("%d %s end", n, strings.Repeat("0 ", n+1))
		if n <= 10 {
			mayBe(t, "small goby "+text)
			continue
		}
		mayNotBe(t, api.ErrCode, "small ! goby "+text, "small ! goby "+fmt.Sprint(n))
	}
}

func TestCodeThatEndsWithinAnInstruction(t *testing.T) {
	for _, whole := range []string{
		"block 0", "loop 0", "if 0", "go 0", "goif 0", "call 1", "get 0", "set 0", "tee 0",
		"SMALL 0 0 0 0", "WIDE 0 0 0 0 0 0 0 0",
		"goby 0 0", "goby 1 0 0", "goby 2 0 0 0", "goby 10 0 0 0 0 0 0 0 0 0 0 0",
	} {
		parts := strings.Fields(whole)
		for n := 1; n < len(parts); n++ {
			cut := strings.Join(parts[:n], " ")
			mayNotBe(t, api.ErrCode, "! "+cut, "small ! "+cut, "nothing stop ! "+cut, "block 0 ! "+cut)
		}
		mayNotBe(t, api.ErrNest, "stop "+whole+" !")
	}
}

// What stands behind an instruction is not looked at as one.
func TestBytesBehindAnInstruction(t *testing.T) {
	mayBe(t,
		"SMALL 99 6 255 99 drop end",
		"WIDE 99 6 0 5 255 17 18 19 drop end",
		"SMALL 128 0 0 0 drop WIDE 255 255 255 255 255 255 255 255 drop end",
	)
	answersIn(t, sWSToSWS, api.OK, "stop block 6 stop end end")
}
