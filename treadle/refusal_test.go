package treadle

import (
	"testing"

	"treadle/api"
	"treadle/shape"
)

func TestRefusal(t *testing.T) {
	if e, at := refusal(shape.Fault{Errno: api.ErrLong, Place: 3}); e != api.ErrLong || at != 3 {
		t.Errorf("P1: a Fault: %d, %d", e, at)
	}
	if e, at := refusal("anything else"); e != api.ErrForm || at != 0 {
		t.Errorf("P1: no Fault: %d, %d", e, at)
	}
}
