package api_test

import (
	"testing"

	"helm/api"
)

// The numbers as the document names them.
func TestErrorsAndBounds(t *testing.T) {
	errnos := []api.Errno{api.OK, api.ErrText, api.ErrName, api.ErrType, api.ErrCost, api.ErrCode, api.ErrArg, api.ErrFull, api.ErrNone}
	for i, errno := range errnos {
		if int(errno) != i {
			t.Errorf("the error %d is %d", i, errno)
		}
	}
	bounds := [][2]int{{api.MaxText, 4000}, {api.MaxName, 12}, {api.MaxDigits, 18}, {api.MaxNest, 20}, {api.MaxCost, 1000000}, {api.MaxRoads, 8}, {api.MaxQueue, 16}}
	for i, bound := range bounds {
		if bound[0] != bound[1] {
			t.Errorf("the bound %d is %d, want %d", i, bound[0], bound[1])
		}
	}
}
