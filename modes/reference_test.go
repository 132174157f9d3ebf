package modes_test

import (
	"math/big"
	"slices"
	"testing"

	"scrim/api"
	"scrim/cipher"
	"scrim/supply"
)

// counted is iv as one number, the highest byte first, and k more.
func counted(iv []byte, k int) []byte {
	n := new(big.Int).SetBytes(iv)
	n.Add(n, big.NewInt(int64(k)))
	all := new(big.Int).Lsh(big.NewInt(1), uint(8*len(iv)))
	return n.Mod(n, all).FillBytes(make([]byte, len(iv)))
}

// told is what the chapter makes of all of b at once. It keeps no chain: what that
// would be is read each time from iv, what was turned ahead, and how much it was.
func told(t *testing.T, c *cipher.Cipher, mode int, back bool, iv, b []byte) []byte {
	t.Helper()
	size := c.Size()
	var out []byte
	for len(out) < len(b) {
		at := len(out)
		// hidden is iv, and what has been hidden: there it went out, back it came in.
		hidden := slices.Concat(iv, out)
		if back {
			hidden = slices.Concat(iv, b[:at])
		}
		last := hidden[max(len(hidden)-size, 0):]
		p := b[at:min(at+size, len(b))]
		switch {
		case mode == api.Ecb:
			out = append(out, supply.Turned(t, c, back, p)...)
		case mode == api.Cbc && back:
			out = append(out, supply.Plus(supply.Turned(t, c, true, p), last)...)
		case mode == api.Cbc:
			out = append(out, supply.Turned(t, c, false, supply.Plus(p, last))...)
		case mode == api.Cfb8:
			out = append(out, p[0]^supply.Turned(t, c, false, last)[0])
		case mode == api.Cfb:
			out = append(out, supply.Plus(p, supply.Turned(t, c, false, last))...)
		case mode == api.Ofb:
			row := iv
			for range at/size + 1 {
				row = supply.Turned(t, c, false, row)
			}
			out = append(out, supply.Plus(p, row)...)
		case mode == api.Ctr:
			out = append(out, supply.Plus(p, supply.Turned(t, c, false, counted(iv, at/size)))...)
		default:
			t.Fatalf("mode %d", mode)
		}
	}
	return out
}
