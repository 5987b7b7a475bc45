package shape

import (
	"reflect"
	"testing"

	"treadle/api"
)

// two has a signature of each kind of list, and two functions.
var two = []byte("TR\x01" + "\x02\x00\x00\x02\x01\x02\x01\x02" + "\x02" + "\x01\x02\x02\x01\x00\x03\x0e\x01\x06" + "\x00\x00\x00\x01\x06")

func TestRead(t *testing.T) {
	b := append([]byte{}, two...)
	got := Read(b)
	clear(b)
	want := &Module{
		[]Signature{{[]int{}, []int{}}, {[]int{1, 2}, []int{2}}},
		[]Function{{1, []int{2, 1}, 18, []byte{14, 1, 6}}, {0, []int{}, 25, []byte{6}}},
	}
	if !reflect.DeepEqual(got, want) {
		t.Errorf("Read = %v, want %v", got, want)
	}
}

// gaveUp is what Read panics with.
func gaveUp(b []byte) (reason any) {
	defer func() { reason = recover() }()
	Read(b)
	return nil
}

func TestReadGivesUp(t *testing.T) {
	for i, c := range []struct {
		b    []byte
		want any
	}{
		{two, nil},
		{make([]byte, api.MaxModule+1), Fault{api.ErrLong, 0}},
		{nil, Fault{api.ErrForm, 0}},
		{two[:20], Fault{api.ErrForm, 20}},
		{append(two[:len(two):len(two)], 0), Fault{api.ErrForm, len(two)}},
	} {
		if got := gaveUp(c.b); got != c.want {
			t.Errorf("case %d: %v, want %v", i, got, c.want)
		}
	}
}
