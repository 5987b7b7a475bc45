package number

import (
	"testing"

	"treadle/api"
	"treadle/code"
	"treadle/shape"
)

func TestOfTwo(t *testing.T) {
	for _, c := range []struct {
		name          int
		typeOf        int
		first, second int64
		want          int64
		end           api.End
	}{
		{code.Add, shape.Small, 1<<31 - 1, 1, -1 << 31, api.Done},
		{code.Add, shape.Wide, 1<<31 - 1, 1, 1 << 31, api.Done},
		{code.Div, shape.Small, -1 << 31, -1, 0, api.Over},
		{code.Div, shape.Wide, -1 << 31, -1, 1 << 31, api.Done},
		{code.Div, shape.Wide, -1 << 63, -1, 0, api.Over},
		{code.Div, shape.Small, 0, -1, 0, api.Done},
		{code.Rem, shape.Wide, -1 << 63, -1, 0, api.Done},
		{code.Rem, shape.Small, 5, 0, 0, api.Zero},
		{code.Div, shape.Wide, 5, 0, 0, api.Zero},
		{code.Left, shape.Small, 1, 33, 2, api.Done},
		{code.Left, shape.Wide, 1, 33, 1 << 33, api.Done},
		{code.Right, shape.Wide, -1 << 63, -1, -1, api.Done},
		{code.Less, shape.Wide, -1, 0, 1, api.Done},
		{code.Equal, shape.Small, -1, 0, 0, api.Done},
	} {
		if n, end := OfTwo(code.Kind{Name: c.name, Of: c.typeOf}, c.first, c.second); n != c.want || end != c.end {
			t.Errorf("%v: %d, %d", c, n, end)
		}
	}
}

func TestIsSmall(t *testing.T) {
	for n, want := range map[int64]bool{0: true, -1: true, 1<<31 - 1: true, -1 << 31: true, 1 << 31: false, -1<<31 - 1: false, 1 << 32: false, -1 << 63: false} {
		if IsSmall(n) != want {
			t.Errorf("%d", n)
		}
	}
}
