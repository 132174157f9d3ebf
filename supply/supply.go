// Package supply hands the tests of the layers above package cipher what they turn
// by; the program itself imports it nowhere.
package supply

import (
	"slices"
	"strconv"

	"scrim/api"
	"scrim/cipher"
	"scrim/dice"
	"scrim/probe"
)

func AllTags() []int {
	return []int{api.Des, api.Tdes, api.Idea, api.Xtea, api.Magma, api.Twofish, api.Aria, api.Rc5}
}

// QuickTags are a tag for each length of a block.
func QuickTags() []int { return []int{api.Xtea, api.Twofish} }

// Raw is a text of signs 0 to 9, A to F, as bytes.
func Raw(text string) []byte {
	var b []byte
	for ; len(text) > 0; text = text[2:] {
		v, e := strconv.ParseUint(text[:2], 16, 8)
		if e != nil {
			panic(e)
		}
		b = append(b, byte(v))
	}
	return b
}

func Cipher(t probe.Tester, tag int, key []byte) *cipher.Cipher {
	t.Helper()
	c, e := cipher.New(tag, key)
	if e != api.OK {
		t.Fatalf("New of %d: %v", tag, e)
	}
	return c
}

// Thrown is a cipher of that tag, by some key.
func Thrown(t probe.Tester, d *dice.Dice, tag int) *cipher.Cipher {
	t.Helper()
	lengths := cipher.Lengths(tag)
	return Cipher(t, tag, d.Bytes(lengths[d.Below(len(lengths))]))
}

// Each calls for each of those modes, either way, by a cipher of each of those tags.
func Each(t probe.Tester, d *dice.Dice, tags, modes []int, call func(c *cipher.Cipher, mode int, back bool)) {
	t.Helper()
	for _, tag := range tags {
		for _, mode := range modes {
			for _, back := range []bool{false, true} {
				call(Thrown(t, d, tag), mode, back)
			}
		}
	}
}

// Turned is a block by E or D.
func Turned(t probe.Tester, c *cipher.Cipher, back bool, b []byte) []byte {
	t.Helper()
	call := c.Enc
	if back {
		call = c.Dec
	}
	out, e := call(b)
	if e != api.OK {
		t.Fatalf("% X, %v: %v", b, back, e)
	}
	return out
}

// Plus is a and as many bytes of b, byte by byte.
func Plus(a, b []byte) []byte {
	out := slices.Clone(a)
	for i := range out {
		out[i] ^= b[i]
	}
	return out
}
