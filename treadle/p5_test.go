package treadle_test

import (
	"slices"
	"testing"

	"treadle/treadle"
)

// tells checks that Functions tells of each function its signature.
func tells(t *testing.T, m *treadle.Module, want []signature) {
	t.Helper()
	told := m.Functions()
	if len(told) != len(want) {
		t.Fatalf("P5: %d functions, want %d", len(told), len(want))
	}
	for i, f := range told {
		if !slices.Equal(f.Takes, want[i].takes) || !slices.Equal(f.Gives, want[i].gives) {
			t.Errorf("P5: function %d: %v, want %v", i, f, want[i])
		}
	}
}

func TestFunctionsOfMixed(t *testing.T) {
	shared := signature{[]int{1, 2}, []int{2}}
	m := isLoaded(t, mixed().bytes)
	for range 3 {
		tells(t, m, []signature{{[]int{2, 2, 1, 1, 2, 1}, []int{1, 2, 1}}, {}, shared, shared})
	}
}

func TestFunctionsOfSmall(t *testing.T) {
	tells(t, isLoaded(t, small().bytes), []signature{{}})
}

// Twenty signatures that are all different, told by twenty functions from the last to the first.
func TestFunctionsAtTheirLimits(t *testing.T) {
	var signatures []signature
	for i := range 20 {
		s := signature{slices.Repeat([]int{1}, i%7), slices.Repeat([]int{2}, i%4)}
		if len(s.takes) > 0 {
			s.takes[i%len(s.takes)] = 2
		}
		if len(s.gives) > 0 {
			s.gives[i%len(s.gives)] = 1
		}
		signatures = append(signatures, s)
	}
	var functions []function
	var want []signature
	for i := range 20 {
		functions = append(functions, function{19 - i, []int{1, 2}, stopped(2 + i)})
		want = append(want, signatures[19-i])
	}
	tells(t, isLoaded(t, build(signatures, functions).bytes), want)
	tells(t, isLoaded(t, build(signatures, slices.Repeat([]function{{6, nil, stopped(2)}}, 20)).bytes), slices.Repeat(signatures[6:7], 20))
}

func TestFunctionsOfFull(t *testing.T) {
	tells(t, isLoaded(t, full(t, 4000)), make([]signature, 10))
}
