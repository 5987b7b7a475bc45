package treadle_test

import (
	"fmt"
	"strings"
	"testing"

	"treadle/api"
)

func TestElseThatMayNotBe(t *testing.T) {
	mayNotBe(t, api.ErrNest,
		"! else end",
		"! else",
		"stop ! else end",
		"block 0 ! else end end",
		"loop 0 ! else end end",
		"small if 0 else ! else end end",
		"small if 0 else stop ! else end end",
		"small if 0 block 0 ! else end end end",
		"small if 0 loop 0 ! else end end end",
		"small if 0 else block 0 ! else end end end",
		"small if 0 end ! else end",
		"small if 0 else end ! else end",
		"small if 0 small if 0 else end else ! else end end",
	)
	mayBe(t,
		"small if 0 else end end",
		"small if 0 small if 0 else end else end end",
		"small if 0 else small if 0 else end end end",
		"small if 0 block 0 end else end end",
		"block 0 small if 0 else end end end",
	)
}

func TestCodeThatEndsWithinAFrame(t *testing.T) {
	mayNotBe(t, api.ErrNest,
		"nothing !",
		"stop !",
		"return !",
		"small !",
		"small small add !",
		"block 0 !",
		"block 0 end !",
		"loop 0 nothing end !",
		"small if 0 end !",
		"small if 0 else !",
		"small if 0 else end !",
		"block 0 block 0 end end !",
		"go 0 !",
	)
	answersIn(t, sGiveS, api.ErrNest, "small !")
	for depth := range 13 {
		mayNotBe(t, api.ErrNest, strings.Repeat("block 0 ", depth)+strings.Repeat("end ", depth)+"nothing !")
	}
}

func TestBytesBehindTheEnd(t *testing.T) {
	mayBe(t, "end")
	for b := range 256 {
		mayNotBe(t, api.ErrNest,
			fmt.Sprintf("end ! %d", b),
			fmt.Sprintf("end ! %d end", b),
			fmt.Sprintf("stop end ! %d 99 99 99", b),
			fmt.Sprintf("block 0 end end ! %d", b),
		)
	}
}

// The same fault stands in the last function: its place is then the module's length.
func TestLastFunctionWithoutItsEnd(t *testing.T) {
	b := build([]signature{{nil, nil}}, []function{{0, nil, []byte{6}}, {0, nil, []byte{1, 1}}}).bytes
	isRefused(t, b, api.ErrNest, len(b))
}

func TestBlocksInOneAnother(t *testing.T) {
	opens := []string{"block 0 ", "loop 0 ", "small if 0 ", "small if 0 else "}
	for _, open := range opens {
		for depth := range 13 {
			mayBe(t, strings.Repeat(open, depth)+strings.Repeat("end ", depth+1))
		}
		for _, one := range opens {
			last := strings.Replace("! "+one, "! small if", "small ! if", 1)
			mayNotBe(t, api.ErrDeep, strings.Repeat(open, 12)+last+strings.Repeat("end ", 14))
		}
	}
}

// How many there were counts nothing, only how many are open.
func TestBlocksBehindOneAnother(t *testing.T) {
	deep, ends := strings.Repeat("block 0 ", 12), strings.Repeat("end ", 12)
	mayBe(t,
		strings.Repeat("block 0 end ", 40)+"end",
		deep+"end loop 0 end "+strings.Repeat("end ", 12),
		deep+ends+deep+ends+"end",
		strings.Repeat("small if 0 ", 12)+strings.Repeat("else end ", 12)+"end",
	)
	mayNotBe(t, api.ErrDeep,
		deep+"end loop 0 ! block 0",
		deep+ends+deep+"stop ! loop 0",
		deep+"stop ! if 0",
	)
}
