package code

import (
	"slices"
	"testing"

	"treadle/api"
	"treadle/shape"
)

// read reads an instruction at the place 2 of some code, and tells the Fault, if it gives up.
func read(bytes ...byte) (step Step, fault any) {
	defer func() { fault = recover() }()
	f := shape.Function{Start: 100, Code: append([]byte{1, 1}, bytes...)}
	return Read(f, 2), nil
}

func TestNames(t *testing.T) {
	names := map[int][]int{
		0:  {Stop, Nothing, Block, Loop, If, Else, End, Go, GoIf, GoBy, Return, Call, Drop, Pick, Get, Set, Tee},
		20: {Constant, Constant},
		30: {Add, Sub, Mul, Div, Rem, And, Or, Xor, Left, Right, Equal, Less, Zero},
		50: {Add, Sub, Mul, Div, Rem, And, Or, Xor, Left, Right, Equal, Less, Zero},
		70: {Narrow, Widen},
	}
	count := 0
	for first, list := range names {
		for i, name := range list {
			step, fault := read(byte(first+i), 0, 0, 0, 0, 0, 0, 0, 0)
			if fault != nil || step.Name != name {
				t.Errorf("byte %d: name %d, %v, want %d", first+i, step.Name, fault, name)
			}
			count++
		}
	}
	if count != 47 || len(kinds) != count {
		t.Errorf("%d instructions, %d names", len(kinds), count)
	}
}

func TestWhatStandsBehind(t *testing.T) {
	for _, c := range []struct {
		bytes   []byte
		behind  int
		indexes []int
		length  int
	}{
		{[]byte{0, 9, 9}, Bare, nil, 1},
		{[]byte{6}, Bare, nil, 1},
		{[]byte{2, 7, 9}, Signature, []int{7}, 2},
		{[]byte{11, 255}, Function, []int{255}, 2},
		{[]byte{16, 3}, Local, []int{3}, 2},
		{[]byte{7, 12, 0}, Label, []int{12}, 2},
		{[]byte{9, 0, 5, 6}, Labels, []int{5}, 3},
		{[]byte{9, 2, 5, 4, 255, 6}, Labels, []int{5, 4, 255}, 5},
		{[]byte{20, 1, 2, 3, 4, 5}, Four, nil, 5},
		{[]byte{21, 1, 2, 3, 4, 5, 6, 7, 8}, Eight, nil, 9},
	} {
		step, fault := read(c.bytes...)
		if fault != nil || step.Behind != c.behind || !slices.Equal(step.Indexes, c.indexes) || step.Next != 2+c.length {
			t.Errorf("%v: %v, %v", c.bytes, step, fault)
		}
	}
}

func TestNumbers(t *testing.T) {
	for _, c := range []struct {
		bytes []byte
		want  int64
	}{
		{[]byte{20, 1, 2, 3, 4, 5}, 0x01020304},
		{[]byte{20, 255, 255, 255, 254}, -2},
		{[]byte{20, 128, 0, 0, 0}, -1 << 31},
		{[]byte{21, 1, 2, 3, 4, 5, 6, 7, 8, 9}, 0x0102030405060708},
		{[]byte{21, 255, 255, 255, 255, 255, 255, 255, 254}, -2},
		{[]byte{21, 128, 0, 0, 0, 0, 0, 0, 0}, -1 << 63},
		{[]byte{11, 5}, 0},
		{[]byte{6}, 0},
	} {
		if step, fault := read(c.bytes...); fault != nil || step.Number != c.want {
			t.Errorf("%v: %d, %v, want %d", c.bytes, step.Number, fault, c.want)
		}
	}
}

func TestGivingUp(t *testing.T) {
	for _, bytes := range [][]byte{{17}, {255, 0}, {2}, {9}, {9, 0}, {9, 1, 0}, {9, 11, 0, 0, 0, 0, 0, 0, 0, 0, 0, 0, 0, 0}, {20, 0, 0, 0}, {21, 0, 0, 0, 0, 0, 0, 0}} {
		if _, fault := read(bytes...); fault != (shape.Fault{Errno: api.ErrCode, Place: 102}) {
			t.Errorf("%v: %v", bytes, fault)
		}
	}
}
