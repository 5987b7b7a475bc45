package treadle_test

import (
	"slices"
	"testing"

	"treadle/api"
	"treadle/treadle"
)

type signature struct{ takes, gives []int }

type function struct {
	signature int
	locals    []int
	code      []byte
}

// field is a number of a module: where it stands, of how many bytes it is, and what it may be.
type field struct{ place, width, least, most int }

// built is a module's bytes, the numbers among them, and the places of the functions' code.
type built struct {
	bytes  []byte
	fields []field
	starts []int
}

func (b *built) number(n, least, most int) {
	b.fields = append(b.fields, field{len(b.bytes), 1, least, most})
	b.bytes = append(b.bytes, byte(n))
}

func (b *built) number2(n, least, most int) {
	b.fields = append(b.fields, field{len(b.bytes), 2, least, most})
	b.bytes = append(b.bytes, byte(n>>8), byte(n))
}

func (b *built) types(list []int, most int) {
	b.number(len(list), 0, most)
	for _, t := range list {
		b.number(t, 1, 2)
	}
}

// The limits stand here as the document's numbers, so that a changed constant shows.
func build(signatures []signature, functions []function) built {
	var b built
	b.number('T', 'T', 'T')
	b.number('R', 'R', 'R')
	b.number(1, 1, 1)
	b.number(len(signatures), 1, 20)
	for _, s := range signatures {
		b.types(s.takes, 6)
		b.types(s.gives, 3)
	}
	b.number(len(functions), 1, 20)
	for _, f := range functions {
		b.number(f.signature, 0, len(signatures)-1)
		b.types(f.locals, 8)
		b.number2(len(f.code), 1, 400)
		b.starts = append(b.starts, len(b.bytes))
		b.bytes = append(b.bytes, f.code...)
	}
	return b
}

// stopped is code of that length, 2 or more, that may stand in every function: behind a stop any types are there.
func stopped(length int) []byte {
	code := slices.Repeat([]byte{1}, length)
	code[length-2], code[length-1] = 0, 6
	return code
}

// mixed has signatures that are empty, shared and at their limits, and functions with and without locals.
func mixed() built {
	return build(
		[]signature{{nil, nil}, {[]int{1, 2}, []int{2}}, {[]int{2, 2, 1, 1, 2, 1}, []int{1, 2, 1}}},
		[]function{{2, nil, stopped(2)}, {0, []int{1, 2, 1, 2, 2, 2, 1, 1}, []byte{6}}, {1, []int{2}, stopped(300)}, {1, nil, stopped(7)}},
	)
}

// small is the least module there is.
func small() built {
	return build([]signature{{nil, nil}}, []function{{0, nil, []byte{6}}})
}

// full has just that many bytes, from 3750 to 4000.
func full(t *testing.T, length int) []byte {
	t.Helper()
	var functions []function
	for range 9 {
		functions = append(functions, function{0, nil, stopped(400)})
	}
	rest := length - len(build([]signature{{nil, nil}}, functions).bytes) - 4
	b := build([]signature{{nil, nil}}, append(functions, function{0, nil, stopped(rest)})).bytes
	if len(b) != length {
		t.Fatalf("a module of %d bytes was built with %d", length, len(b))
	}
	return b
}

func isLoaded(t *testing.T, b []byte) *treadle.Module {
	t.Helper()
	m, e, at := treadle.Load(b)
	if m == nil || e != api.OK || at != 0 {
		t.Fatalf("Load(%v) = %v, %d, %d, want a Module", b, m, e, at)
	}
	return m
}

func isRefused(t *testing.T, b []byte, errno api.Errno, place int) {
	t.Helper()
	m, e, at := treadle.Load(b)
	if m != nil || e != errno || at != place {
		t.Errorf("Load(%v) = %v, %d, %d, want no Module, %d, %d", b, m, e, at, errno, place)
	}
}
