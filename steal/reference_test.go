package steal_test

import (
	"slices"
	"testing"

	"scrim/api"
	"scrim/cipher"
	"scrim/supply"
)

// yAhead tells whether Y stands ahead of X'.
func yAhead(mode, d, size int) bool { return mode == api.Cs3 || mode == api.Cs2 && d < size }

// told is what the chapter makes of b, word by word.
func told(t *testing.T, c *cipher.Cipher, mode int, back bool, last, b []byte) []byte {
	t.Helper()
	switch {
	case len(b) == c.Size() && back:
		return supply.Plus(supply.Turned(t, c, true, b), last)
	case len(b) == c.Size():
		return supply.Turned(t, c, false, supply.Plus(b, last))
	case back:
		return toldBack(t, c, mode, last, b)
	}
	return toldThere(t, c, mode, last, b)
}

// toldThere and toldBack are told more bytes than a block has.
func toldThere(t *testing.T, c *cipher.Cipher, mode int, last, b []byte) []byte {
	t.Helper()
	size := c.Size()
	p, q := b[:size], b[size:]
	d := len(q)
	x := supply.Turned(t, c, false, supply.Plus(p, last))
	y := supply.Turned(t, c, false, supply.Plus(slices.Concat(q, make([]byte, size-d)), x))
	if yAhead(mode, d, size) {
		return slices.Concat(y, x[:d])
	}
	return slices.Concat(x[:d], y)
}

func toldBack(t *testing.T, c *cipher.Cipher, mode int, last, b []byte) []byte {
	t.Helper()
	size := c.Size()
	d := len(b) - size
	stolen, y := b[:d], b[d:]
	if yAhead(mode, d, size) {
		y, stolen = b[:size], b[size:]
	}
	z := supply.Turned(t, c, true, y)
	q := supply.Plus(z[:d], stolen)
	p := supply.Plus(supply.Turned(t, c, true, slices.Concat(stolen, z[d:])), last)
	return slices.Concat(p, q)
}
