package fault

import (
	"errors"
	"testing"

	"conduit/api"
)

func TestFaultWrapsItsNumber(t *testing.T) {
	err := Of(api.ErrForm, "no blank")
	var no api.Errno
	if !errors.Is(err, api.ErrForm) || errors.Is(err, api.ErrLarge) || !errors.As(err, &no) || no != api.ErrForm {
		t.Errorf("the number isn't told: %v", err)
	}
	if err.Error() != "error 10: no blank" || err != Of(api.ErrForm, "no blank") {
		t.Errorf("the text isn't told: %v", err)
	}
}
