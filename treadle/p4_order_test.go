package treadle_test

import (
	"strings"
	"testing"

	"treadle/api"
)

const deepest = "block 0 block 0 block 0 block 0 block 0 block 0 block 0 block 0 block 0 block 0 block 0 block 0 "

// Each of these is wrong in more than one way; the error that is named first is the answer.
func TestErrorsAtOneInstruction(t *testing.T) {
	mayNotBe(t, api.ErrCode,
		"! goby 2 99 99",
		"! goby 11 99 99 99 99 99 99 99 99 99 99 99 99 end",
		"! goby 200 end",
		deepest+"! block",
		deepest+"! if",
		"! set",
		"! call",
		"! goby 1 0",
		"small ! 99",
	)
	mayNotBe(t, api.ErrIndex,
		deepest+"! block 8",
		deepest+"! if 8",
		deepest+"! loop 255",
		"! if 8 end end",
		"! call 3 end",
		"! set 2 end",
		"wide ! tee 2 end",
		"! go 1 end",
		"! goif 1 end",
		"! goby 1 0 1 end",
		"block 1 ! goby 2 0 1 2 end end",
		"block 1 wide ! goby 1 2 0 end end",
	)
	mayNotBe(t, api.ErrNest,
		"small ! else end",
		"block 1 ! else end",
		"block 0 small ! else end",
		"small if 1 small else ! else end",
		"small if 0 else small ! else end",
	)
	mayNotBe(t, api.ErrDeep,
		deepest+"! if 0",
		deepest+"! block 5",
		deepest+"! loop 3",
		deepest+"wide ! if 5",
		deepest+"stop small ! block 5",
	)
}

// What stands behind the first fault is not come to.
func TestTheFirstInstructionIsTold(t *testing.T) {
	mayNotBe(t, api.ErrType, "! add 99", "! add block 8", "! drop else", "small block 0 ! drop end 99", "wide ! zero block", "small ! end 99", "small ! end")
	mayNotBe(t, api.ErrIndex, "! go 1 99", "! get 2 add", "! block 8")
	mayNotBe(t, api.ErrNest, "! else 99", "! else add", "! else", "end ! end 99")
	mayNotBe(t, api.ErrCode, "! 99 add", "! 17 else", "! 255")
	mayNotBe(t, api.ErrDeep, deepest+"! block 0 99", deepest+"! loop 0")
	mayNotBe(t, api.ErrType, "nothing "+deepest+"! drop block 0")
}

// Behind the end of the function's frame nothing else is asked, not even whether there is an instruction.
func TestNestAheadOfAll(t *testing.T) {
	mayNotBe(t, api.ErrNest, "end ! 99", "end ! SMALL 0", "end ! goby 99", "end ! block 99", "end ! add", "end ! else", "end ! go", "stop end ! end end")
}

func TestFunctionByFunction(t *testing.T) {
	signatures := []signature{{nil, nil}}
	fine, wrongType, wrongCode, open := []byte{6}, []byte{1, 1, 1, 12, 6}, []byte{99}, []byte{1}
	for _, c := range []struct {
		codes [][]byte
		errno api.Errno
		which int
		at    int
	}{
		{[][]byte{fine, fine, wrongCode}, api.ErrCode, 2, 0},
		{[][]byte{wrongType, wrongCode, fine}, api.ErrType, 0, 3},
		{[][]byte{fine, wrongType, wrongCode}, api.ErrType, 1, 3},
		{[][]byte{open, wrongCode, fine}, api.ErrNest, 0, 1},
		{[][]byte{fine, wrongCode, wrongType}, api.ErrCode, 1, 0},
		{[][]byte{fine, open, wrongType}, api.ErrNest, 1, 1},
		{[][]byte{{6, 6}, open, wrongCode}, api.ErrNest, 0, 1},
	} {
		var functions []function
		for _, code := range c.codes {
			functions = append(functions, function{0, nil, code})
		}
		b := build(signatures, functions)
		isRefused(t, b.bytes, c.errno, b.starts[c.which]+c.at)
	}
}

// Each function is looked through by itself: nothing of one is left for the next.
func TestFunctionsApart(t *testing.T) {
	signatures := []signature{{nil, nil}, {nil, []int{1}}, {[]int{2}, nil}}
	b := build(signatures, []function{{1, []int{1, 2}, []byte{0, 6}}, {0, nil, []byte{12, 6}}})
	isRefused(t, b.bytes, api.ErrType, b.starts[1])
	b = build(signatures, []function{{1, []int{1, 2}, []byte{0, 6}}, {0, nil, []byte{14, 0, 12, 6}}})
	isRefused(t, b.bytes, api.ErrIndex, b.starts[1])
	b = build(signatures, []function{{0, []int{1, 2}, []byte{6}}, {2, []int{1}, []byte{14, 0, 15, 1, 6}}})
	isRefused(t, b.bytes, api.ErrType, b.starts[1]+2)
	b = build(signatures, []function{{2, nil, []byte{14, 0, 11, 0, 11, 1, 12, 6}}, {1, []int{1}, []byte{14, 0, 6}}})
	isLoaded(t, b.bytes)
}

func TestCodeBehindTheForm(t *testing.T) {
	signatures := []signature{{nil, nil}}
	b := build(signatures, []function{{0, nil, []byte{99}}, {0, nil, []byte{6}}})
	isRefused(t, b.bytes, api.ErrCode, b.starts[0])
	isRefused(t, b.bytes[:len(b.bytes)-1], api.ErrForm, len(b.bytes)-1)
	isRefused(t, append(b.bytes, 0), api.ErrForm, len(b.bytes))
	b = build(signatures, []function{{0, nil, []byte{12}}, {1, nil, []byte{6}}})
	isRefused(t, b.bytes, api.ErrForm, b.starts[1]-4)
	isRefused(t, append(b.bytes, make([]byte, 4000)...), api.ErrLong, 0)
}

func TestSecondExample(t *testing.T) {
	head := "TR\x01\x01\x02\x01\x01\x01\x01\x01\x00\x00\x00"
	sum := []byte(head + "\x06\x0e\x00\x0e\x01\x1e\x06")
	isLoaded(t, sum)
	isRefused(t, []byte(head+"\x04\x0e\x00\x1f\x06"), api.ErrType, 16)
	isRefused(t, []byte(head+"\x07\x0e\x00\x0e\x01\x1e\x06\x06"), api.ErrNest, 20)
	isLoaded(t, []byte(head+"\x03\x00\x1e\x06"))
}

func TestLongestCode(t *testing.T) {
	mayBe(t, strings.Repeat("nothing ", 399)+"end", strings.Repeat("small drop ", 66)+"nothing nothing nothing end", strings.Repeat("small ", 79)+"stop nothing nothing nothing end")
	mayNotBe(t, api.ErrType, strings.Repeat("get 0 ", 199)+"nothing ! end", strings.Repeat("nothing ", 399)+"! drop")
	mayNotBe(t, api.ErrNest, strings.Repeat("nothing ", 400)+"!")
	mayNotBe(t, api.ErrCode, strings.Repeat("nothing ", 399)+"! SMALL")
}
