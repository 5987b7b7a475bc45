package look

import (
	"fmt"
	"testing"

	"treadle/shape"
)

// looked is the function of that code, which takes and gives nothing; signature 1 takes a small and gives a wide, signature 2 gives a small.
func looked(code ...byte) Function {
	return Through(&shape.Module{
		Signatures: []shape.Signature{{}, {Takes: []int{1}, Gives: []int{2}}, {Gives: []int{1}}},
		Functions:  []shape.Function{{Locals: []int{1, 2}, Code: code}},
	})[0]
}

// leads tells of each step that leads elsewhere where to: which step is next, how many numbers are kept, and how high the stack is below.
func leads(f Function) string {
	told := map[int][]Target{}
	for i, step := range f.Steps {
		for _, target := range step.Targets {
			told[i] = append(told[i], *target)
		}
	}
	return fmt.Sprint(told)
}

func TestWhereStepsLead(t *testing.T) {
	for i, c := range []struct {
		code []byte
		want string
	}{
		{[]byte{6}, "map[]"},
		{[]byte{7, 0, 6}, "map[0:[{2 0 0}]]"},
		{[]byte{2, 0, 7, 0, 1, 6, 1, 6}, "map[1:[{4 0 0}]]"},
		{[]byte{3, 0, 1, 7, 0, 6, 6}, "map[2:[{1 0 0}]]"},
		{[]byte{14, 1, 14, 0, 3, 1, 7, 0, 6, 12, 12, 6}, "map[3:[{3 1 1}]]"},
		{[]byte{14, 0, 2, 2, 14, 0, 7, 0, 6, 12, 12, 6}, "map[3:[{5 1 1}]]"},
		{[]byte{14, 0, 4, 0, 1, 6, 6}, "map[1:[{4 0 0}]]"},
		{[]byte{14, 0, 4, 0, 1, 5, 1, 1, 6, 6}, "map[1:[{4 0 0}] 3:[{7 0 0}]]"},
		{[]byte{14, 0, 14, 0, 4, 1, 71, 5, 71, 6, 12, 6}, "map[2:[{5 1 0}] 4:[{7 1 0}]]"},
		{[]byte{14, 0, 4, 0, 7, 0, 5, 7, 0, 6, 6}, "map[1:[{4 0 0}] 2:[{6 0 0}] 3:[{6 0 0}] 4:[{6 0 0}]]"},
		{[]byte{2, 0, 3, 0, 14, 0, 9, 2, 0, 1, 2, 6, 6, 6}, "map[3:[{2 0 0} {6 0 0} {7 0 0}]]"},
	} {
		f := looked(c.code...)
		if got := leads(f); got != c.want {
			t.Errorf("case %d: %s, want %s", i, got, c.want)
		}
		if f.Locals != 2 || len(f.Takes) != 0 || len(f.Gives) != 0 {
			t.Errorf("case %d: %v", i, f)
		}
	}
}
