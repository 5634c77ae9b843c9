// Package rules tests what the document says of all layers at once.
package rules

import (
	"testing"

	"afterimage/api"
)

// DOC.md, 'Words': the errors' numbers and texts.
func TestErrors(t *testing.T) {
	errors := []api.Errno{
		api.OK, api.ErrNil, api.ErrArg, api.ErrRange, api.ErrFull, api.ErrNone, api.ErrShort, api.ErrForm, api.ErrLong,
		api.ErrSum, api.ErrOrder, api.ErrKind, api.ErrDup, api.ErrStale, api.ErrBase, api.ErrApply, api.ErrTime, api.ErrState,
	}
	for i, e := range errors {
		if int(e) != i {
			t.Errorf("error %d has the number %d", i, int(e))
		}
	}
	var e error = api.ErrState
	if e.Error() != "error 17" || api.OK.Error() != "error 0" || api.Errno(-3).Error() != "error -3" {
		t.Error(e.Error(), api.OK.Error(), api.Errno(-3).Error())
	}
}

// DOC.md, 'Words': the limits, and the numbers of kinds and modes.
func TestLimits(t *testing.T) {
	for _, c := range []struct {
		name      string
		got, want int64
	}{
		{"One", api.One, 65536}, {"MaxTime", api.MaxTime, 2305843009213693952}, {"MaxTick", api.MaxTick, 4294967295},
		{"MaxId", api.MaxId, 65535}, {"MaxEnts", api.MaxEnts, 64}, {"MaxRing", api.MaxRing, 64},
		{"MaxWindow", api.MaxWindow, 64}, {"MaxGram", api.MaxGram, 4096}, {"MaxRatio", api.MaxRatio, 1048576},
		{"Put", api.Put, 0}, {"Update", api.Update, 1}, {"Remove", api.Remove, 2}, {"Teleport", api.Teleport, 3},
		{"Exact", api.Exact, 0}, {"Line", api.Line, 1}, {"Curve", api.Curve, 2}, {"Further", api.Further, 3}, {"Hold", api.Hold, 4},
		{"Arrive", api.Arrive, 0}, {"Frame", api.Frame, 1},
	} {
		if c.got != c.want {
			t.Errorf("%s is %d, want %d", c.name, c.got, c.want)
		}
	}
}
