package epoch

import (
	"testing"

	"tendril/api"
)

// P5.3: there is no epoch after MaxEpoch.
func TestLastEpoch(t *testing.T) {
	e, _ := New(1, 4)
	e.now = api.MaxEpoch - 1
	if !e.Advance(api.MaxEpoch-1) || e.Now() != api.MaxEpoch {
		t.Error(e.Now())
	}
	if e.Advance(api.MaxEpoch) || e.Now() != api.MaxEpoch {
		t.Error(e.Now())
	}
	if !e.Pin(0, api.MaxEpoch) || e.PinOf(0) != api.MaxEpoch {
		t.Error(e.PinOf(0))
	}
}
