package treadle_test

import (
	"slices"
	"testing"

	"treadle/api"
	"treadle/treadle"
)

// thrown is an instruction without a rule to it, most often one that is whole.
func (d *dice) thrown() []byte {
	all := []byte{0, 1, 2, 3, 4, 5, 6, 7, 8, 9, 10, 11, 12, 13, 14, 15, 16, 20, 21, 30, 39, 40, 42, 50, 60, 62, 70, 71}
	b := []byte{all[d.below(len(all))]}
	if d.below(40) == 0 {
		b[0] = byte(d.below(256))
	}
	more := map[byte]int{2: 1, 3: 1, 4: 1, 7: 1, 8: 1, 11: 1, 14: 1, 15: 1, 16: 1, 20: 4, 21: 8}[b[0]]
	if b[0] == 9 {
		n := d.below(4)
		b, more = append(b, byte(n)), n+1
	}
	for range more {
		b = append(b, byte(d.below(3+d.below(6))))
	}
	return b
}

// grown is code made of what is thrown, of which all but the last instruction may be; or all of it.
func (d *dice) grown(signatureOf int) []byte {
	var code []byte
	for range 300 {
		next := slices.Concat(code, d.thrown())
		b := oneFunction(signatureOf, next)
		_, e, at := treadle.Load(b.bytes)
		if e == api.OK || len(next) > 390 {
			return next
		}
		if e == api.ErrNest && at == b.starts[0]+len(next) {
			code = next
		} else if d.below(30) == 0 {
			return next
		}
	}
	return append(code, 6)
}

// firstFault is what Load answers to the code in function 0, with the place told from its beginning on.
func firstFault(t *testing.T, signatureOf int, code []byte) (api.Errno, int) {
	t.Helper()
	b := oneFunction(signatureOf, code)
	isWhole(t, b.bytes)
	_, e, at := treadle.Load(b.bytes)
	if e == api.OK {
		return e, 0
	}
	at -= b.starts[0]
	if e < api.ErrCode || e > api.ErrType || at < 0 || at > len(code) {
		t.Errorf("P4: code %v: error %d at %d", code, e, at)
	}
	return e, at
}

// Whatever the code: ahead of the place that is told nothing is wrong, and what stands behind it does not count.
func TestAnyCode(t *testing.T) {
	var d dice
	loaded := 0
	for i := range 2000 {
		signatureOf := i % sCount
		code := d.grown(signatureOf)
		e, at := firstFault(t, signatureOf, code)
		if e == api.OK {
			loaded++
			if e, at = firstFault(t, signatureOf, append(code, 1)); e != api.ErrNest || at != len(code) {
				t.Errorf("P4: code %v and one byte more: error %d at %d", code, e, at)
			}
			continue
		}
		if at == len(code) {
			continue
		}
		behindEnd := false
		if at > 0 {
			cut, cutAt := firstFault(t, signatureOf, code[:at])
			behindEnd = cut == api.OK
			if !behindEnd && (cut != api.ErrNest || cutAt != at) {
				t.Errorf("P4: code %v: error %d at %d, but cut there %d at %d", code, e, at, cut, cutAt)
			}
		}
		want := api.ErrCode
		if behindEnd {
			want = api.ErrNest
		}
		if other, otherAt := firstFault(t, signatureOf, append(slices.Clone(code[:at]), 99)); other != want || otherAt != at {
			t.Errorf("P4: code %v: error %d at %d, but with a 99 there %d at %d", code, e, at, other, otherAt)
		}
	}
	if loaded < 200 {
		t.Errorf("only %d were loaded", loaded)
	}
}

func TestAnyBytesAsCode(t *testing.T) {
	var d dice
	for i := range 20000 {
		code := make([]byte, 1+d.below(30))
		for j := range code {
			code[j] = byte(d.below(10 + d.below(70)))
		}
		firstFault(t, i%sCount, code)
	}
}
