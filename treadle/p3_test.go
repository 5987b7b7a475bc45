package treadle_test

import (
	"slices"
	"testing"

	"treadle/api"
	"treadle/treadle"
)

// with is the module with another number at a field.
func (b built) with(f field, n int) []byte {
	changed := slices.Clone(b.bytes)
	changed[f.place] = byte(n)
	if f.width == 2 {
		changed[f.place], changed[f.place+1] = byte(n>>8), byte(n)
	}
	return changed
}

// wrong are all numbers that a field can hold and may not be.
func (f field) wrong() []int {
	var all []int
	for n := range 1 << (8 * f.width) {
		if n < f.least || n > f.most {
			all = append(all, n)
		}
	}
	return all
}

func TestLong(t *testing.T) {
	isLoaded(t, full(t, 3999))
	isLoaded(t, full(t, 4000))
	isRefused(t, append(full(t, 4000), 0), api.ErrLong, 0)
	isRefused(t, append(full(t, 4000), full(t, 4000)...), api.ErrLong, 0)
	isRefused(t, append(small().bytes, make([]byte, 4000)...), api.ErrLong, 0)
	isRefused(t, make([]byte, 4001), api.ErrLong, 0)
	isRefused(t, make([]byte, 4000), api.ErrForm, 0)
}

func TestEndsTooEarly(t *testing.T) {
	isRefused(t, nil, api.ErrForm, 0)
	for _, b := range [][]byte{mixed().bytes, small().bytes, full(t, 4000)} {
		for length := range b {
			isRefused(t, b[:length], api.ErrForm, length)
			isRefused(t, slices.Clip(slices.Clone(b[:length])), api.ErrForm, length)
		}
	}
}

func TestNumberThatMayNotBe(t *testing.T) {
	for _, b := range []built{mixed(), small()} {
		for _, f := range b.fields {
			for _, n := range f.wrong() {
				isRefused(t, b.with(f, n), api.ErrForm, f.place)
			}
		}
	}
}

// A changed count may move all that stands behind it, but it is not wrong itself.
func TestNumberThatMayBe(t *testing.T) {
	for _, b := range []built{mixed(), small()} {
		for _, f := range b.fields {
			for n := f.least; n <= f.most; n++ {
				_, e, at := treadle.Load(b.with(f, n))
				if e != api.OK && at <= f.place {
					t.Errorf("P3: %d at %d: %d, %d", n, f.place, e, at)
				}
			}
		}
	}
}

func TestLimits(t *testing.T) {
	none, most := signature{}, signature{[]int{1, 2, 1, 2, 1, 2}, []int{2, 1, 2}}
	for _, s := range []signature{none, most, {most.takes, nil}, {nil, most.gives}} {
		for _, signatures := range []int{1, 20} {
			for _, functions := range []int{1, 20} {
				for _, locals := range [][]int{nil, {1, 1, 2, 2, 1, 1, 2, 2}} {
					f := function{signatures - 1, locals, stopped(2)}
					isLoaded(t, build(slices.Repeat([]signature{s}, signatures), slices.Repeat([]function{f}, functions)).bytes)
				}
			}
		}
	}
	for _, code := range [][]byte{{6}, stopped(2), stopped(255), stopped(256), stopped(257), stopped(400)} {
		isLoaded(t, build([]signature{none}, []function{{0, nil, code}, {0, nil, code}}).bytes)
	}
}

func TestBehindTheLastFunction(t *testing.T) {
	for _, b := range []built{mixed(), small()} {
		for _, behind := range [][]byte{{0}, {6}, {255}, []byte("TR\x01"), make([]byte, 500)} {
			isRefused(t, append(slices.Clone(b.bytes), behind...), api.ErrForm, len(b.bytes))
		}
	}
	last := len(mixed().fields) - 1
	for n := 1; n < 7; n++ { // its code has 7 bytes
		f := mixed().fields[last]
		isRefused(t, mixed().with(f, n), api.ErrForm, f.place+2+n)
	}
	for n := 8; n <= 400; n++ {
		isRefused(t, mixed().with(mixed().fields[last], n), api.ErrForm, len(mixed().bytes))
	}
}

func TestFirstOfTwoWrongNumbers(t *testing.T) {
	b := mixed()
	for i, first := range b.fields {
		for _, second := range b.fields[i+1:] {
			n := first.wrong()
			one := built{bytes: b.with(second, 255<<(8*(second.width-1)))}
			isRefused(t, one.with(first, n[0]), api.ErrForm, first.place)
			isRefused(t, one.with(first, n[len(n)-1]), api.ErrForm, first.place)
		}
	}
}

func TestWrongNumberOrTooFewBytes(t *testing.T) {
	b := mixed()
	for _, f := range b.fields {
		changed := b.with(f, f.wrong()[len(f.wrong())-1])
		for length := range changed {
			if length < f.place+f.width {
				isRefused(t, changed[:length], api.ErrForm, length)
			} else {
				isRefused(t, changed[:length], api.ErrForm, f.place)
			}
		}
		isRefused(t, append(changed, 0), api.ErrForm, f.place)
	}
}

func TestFormAheadOfCode(t *testing.T) {
	noCode := function{0, nil, []byte{99, 255}}
	b := build([]signature{{}}, []function{noCode, {0, nil, []byte{6}}})
	for _, f := range b.fields {
		isRefused(t, b.with(f, 255<<(8*(f.width-1))), api.ErrForm, f.place)
	}
	for length := range b.bytes {
		isRefused(t, b.bytes[:length], api.ErrForm, length)
	}
	isRefused(t, append(b.bytes, 6), api.ErrForm, len(b.bytes))
}
