package modes_test

import (
	"math/big"
	"slices"
	"testing"

	"scrim/api"
	"scrim/cipher"
)

// turned is a block by E or D.
func turned(t *testing.T, c *cipher.Cipher, back bool, b []byte) []byte {
	t.Helper()
	call := c.Enc
	if back {
		call = c.Dec
	}
	out, e := call(b)
	if e != api.OK {
		t.Fatalf("% X, %v: %v", b, back, e)
	}
	return out
}

// plus is a and as many bytes of b, byte by byte.
func plus(a, b []byte) []byte {
	out := slices.Clone(a)
	for i := range out {
		out[i] ^= b[i]
	}
	return out
}

// counted is iv as one number, the highest byte first, and k more.
func counted(iv []byte, k int) []byte {
	n := new(big.Int).SetBytes(iv)
	n.Add(n, big.NewInt(int64(k)))
	all := new(big.Int).Lsh(big.NewInt(1), uint(8*len(iv)))
	return n.Mod(n, all).FillBytes(make([]byte, len(iv)))
}

// told is what the chapter makes of all of b at once. It keeps no chain: what that
// would be is read each time from iv, what was turned ahead, and how much it was.
func told(t *testing.T, c *cipher.Cipher, mode int, back bool, iv, b []byte) []byte {
	t.Helper()
	size := c.Size()
	var out []byte
	for len(out) < len(b) {
		at := len(out)
		// hidden is iv, and what has been hidden: there it went out, back it came in.
		hidden := slices.Concat(iv, out)
		if back {
			hidden = slices.Concat(iv, b[:at])
		}
		last := hidden[max(len(hidden)-size, 0):]
		p := b[at:min(at+size, len(b))]
		switch {
		case mode == api.Ecb:
			out = append(out, turned(t, c, back, p)...)
		case mode == api.Cbc && back:
			out = append(out, plus(turned(t, c, true, p), last)...)
		case mode == api.Cbc:
			out = append(out, turned(t, c, false, plus(p, last))...)
		case mode == api.Cfb8:
			out = append(out, p[0]^turned(t, c, false, last)[0])
		case mode == api.Cfb:
			out = append(out, plus(p, turned(t, c, false, last))...)
		case mode == api.Ofb:
			row := iv
			for range at/size + 1 {
				row = turned(t, c, false, row)
			}
			out = append(out, plus(p, row)...)
		case mode == api.Ctr:
			out = append(out, plus(p, turned(t, c, false, counted(iv, at/size)))...)
		default:
			t.Fatalf("mode %d", mode)
		}
	}
	return out
}
