package audit

import (
	"errors"
	"testing"

	"cairn/api"
)

// What is wrong is found in whatever it is wrapped in, and the record's place too.
func TestFaults(t *testing.T) {
	for _, e := range []api.Errno{1, 2, 90, 91, 140, 190, 191, 192, 200, 260} {
		err := faultAt(7, e)
		if !errors.Is(err, number(e)) || errors.Is(err, number(e+1)) || numberOf(err) != e || placeOf(err) != 7 {
			t.Errorf("Ways: of error %d at record 7: %d at %d", e, numberOf(err), placeOf(err))
		}
		if err := error(number(e)); numberOf(err) != e || placeOf(err) != -1 {
			t.Errorf("Ways: of error %d alone: %d at %d", e, numberOf(err), placeOf(err))
		}
	}
	if numberOf(nil) != api.OK || placeOf(nil) != -1 {
		t.Errorf("Ways: of no error: %d at %d", numberOf(nil), placeOf(nil))
	}
	if text := faultAt(3, api.ErrChain).Error(); text != "record 3: error 192" {
		t.Errorf("Ways: a fault's text is %q", text)
	}
}
