package treadle_test

import (
	"slices"
	"testing"

	"treadle/api"
	"treadle/treadle"
)

// dice are numbers without a rule to them, but the same in every run of the tests.
type dice uint64

func (d *dice) below(n int) int {
	*d = *d*6364136223846793005 + 1442695040888963407
	return int(uint64(*d)>>33) % n
}

// isWhole checks what holds of every answer of Load.
func isWhole(t *testing.T, b []byte) {
	t.Helper()
	m, e, at := treadle.Load(b)
	if (m == nil) == (e == api.OK) {
		t.Errorf("P1: Load(%v): Module %v beside error %d", b, m, e)
	}
	if e == api.OK && at != 0 {
		t.Errorf("P1: Load(%v): place %d without an error", b, at)
	}
	if at < 0 || at > len(b) {
		t.Errorf("P1: Load(%v): place %d", b, at)
	}
	if e != api.OK && len(m.Functions()) != 0 {
		t.Errorf("P1: Load(%v): functions beside error %d", b, e)
	}
}

func TestLoadOfAnyBytes(t *testing.T) {
	isWhole(t, nil)
	isWhole(t, []byte{})
	var d dice
	for range 20000 {
		b := make([]byte, d.below(60))
		for i := range b {
			b[i] = byte(d.below(256))
		}
		isWhole(t, b)
		isWhole(t, append([]byte("TR\x01"), b...))
		for i := range b {
			b[i] %= 4
		}
		isWhole(t, append([]byte("TR\x01"), b...))
	}
}

func TestLoadOfChangedModules(t *testing.T) {
	var d dice
	for range 20000 {
		b := slices.Clone(mixed().bytes)
		for range 1 + d.below(3) {
			b[d.below(60)] = byte(d.below(25))
		}
		isWhole(t, b)
		isWhole(t, b[:d.below(len(b))])
	}
}

func TestLoadOfLongBytes(t *testing.T) {
	for _, length := range []int{3999, 4000, 4001, 4002, 70000, 1 << 20} {
		isWhole(t, make([]byte, length))
		isWhole(t, slices.Repeat([]byte{255}, length))
		isWhole(t, append(small().bytes, make([]byte, length)...))
	}
}

func TestModuleThatIsNone(t *testing.T) {
	refused, _, _ := treadle.Load([]byte("TR"))
	for i, m := range []*treadle.Module{nil, {}, new(treadle.Module), refused} {
		if l := m.Functions(); len(l) != 0 {
			t.Errorf("P1: case %d: Functions() = %v", i, l)
		}
		for _, f := range []int{-1, 0, 1} {
			o, e := m.Run(f, []int64{1}, -1)
			if e != api.ErrClosed || o.End != 0 || o.Steps != 0 || len(o.Values) != 0 {
				t.Errorf("P1: case %d: Run(%d, ..) = %v, %d", i, f, o, e)
			}
		}
	}
}
