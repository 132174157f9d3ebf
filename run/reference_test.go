package run_test

import (
	"bytes"
	"slices"
	"testing"

	"scrim/api"
	"scrim/cipher"
	"scrim/ctx"
	"scrim/run"
	"scrim/shot"
	"scrim/supply"
)

// toldBy is what a new context answers to those calls, in the chapter's words.
func toldBy(l []run.Call) []run.Told {
	c := ctx.New()
	var all []run.Told
	for _, x := range l {
		var t run.Told
		if x.Kind == 1 {
			t.E = c.Init(x.C, x.Key, x.IV)
		} else if x.Kind == 2 {
			t.Out, t.E = c.Update(x.In)
		} else if x.Kind == 3 {
			t.Out, t.E = c.Final()
		} else if x.Kind == 4 {
			t.E = c.Reset()
		} else {
			t.E = api.ErrArg
		}
		t.Held = c.Held()
		all = append(all, t)
	}
	return all
}

func alike(a, b run.Told) bool {
	return bytes.Equal(a.Out, b.Out) && a.E == b.E && a.Held == b.Held
}

// check holds Run of those calls against toldBy.
func check(t *testing.T, l []run.Call) []run.Told {
	t.Helper()
	got, want := run.Run(l), toldBy(l)
	if len(got) != len(want) {
		t.Fatalf("%d calls: %d are told", len(l), len(got))
	}
	for i := range got {
		if !alike(got[i], want[i]) {
			t.Fatalf("call %d, of kind %d: %+v, not %+v", i, l[i].Kind, got[i], want[i])
		}
	}
	return got
}

// sealed is what Seal must come to: the message at once (T1).
func sealed(x supply.Asked, chunks [][]byte) ([]byte, api.Errno) {
	return shot.Shot(x.Config, x.Key, x.IV, slices.Concat(chunks...))
}

// checkSeal holds Seal of those chunks against sealed.
func checkSeal(t *testing.T, x supply.Asked, chunks [][]byte) ([]byte, api.Errno) {
	t.Helper()
	got, e := run.Seal(x.Config, x.Key, x.IV, chunks)
	if want, f := sealed(x, chunks); e != f || !bytes.Equal(got, want) {
		t.Fatalf("Seal of %+v, % X: % X, %v, not % X, %v", x, chunks, got, e, want, f)
	}
	return got, e
}

// oneOfThree is what becomes of m, back with a padding, by what it is without one.
func oneOfThree(x supply.Asked, m []byte) ([]byte, api.Errno) {
	size, open := cipher.Size(x.Tag), x
	open.Pad = api.None
	out, e := shot.Shot(open.Config, x.Key, x.IV, m)
	if e != api.OK || len(out) == 0 {
		return nil, api.BadLength
	}
	n := padding(x.Pad, out[len(out)-size:])
	if n == 0 {
		return nil, api.BadPadding
	}
	return out[:len(out)-n], api.OK
}

// padding is how many bytes of one end a block; 0, if there is none.
func padding(kind int, block []byte) int {
	last := block[len(block)-1]
	n := int(last)
	switch front := bytes.TrimRight(block, "\x00"); {
	case kind == api.Iso && bytes.HasSuffix(front, []byte{128}):
		return len(block) - len(front) + 1
	case kind == api.Iso || n > len(block):
		return 0
	case kind == api.Pkcs7 && !bytes.HasSuffix(block, bytes.Repeat([]byte{last}, n)):
		return 0
	}
	return n
}
