package ctx

import (
	"errors"
	"testing"

	"scrim/api"
)

// Whatever is thrown ends no program (P1), and only a refusal is told by its own number.
func TestP1CaughtWhateverIsThrown(t *testing.T) {
	for _, why := range []any{api.BadPadding, api.BadLength, "a text", 7, errors.New("an error")} {
		want, ok := why.(api.Errno)
		if !ok {
			want = api.ErrArg
		}
		if out, e := caught(func() []byte { panic(why) }); e != want || out != nil {
			t.Errorf("%v: % X, %v", why, out, e)
		}
	}
	if out, e := caught(func() []byte { return []byte{1} }); e != api.OK || len(out) != 1 {
		t.Errorf("nothing thrown: % X, %v", out, e)
	}
}
