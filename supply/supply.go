// Package supply hands the tests of the layers above package cipher what they turn
// by; the program itself imports it nowhere.
package supply

import (
	"math"
	"slices"
	"strconv"

	"scrim/api"
	"scrim/cipher"
	"scrim/dice"
	"scrim/probe"
)

func AllTags() []int {
	return []int{api.Des, api.Tdes, api.Idea, api.Xtea, api.Magma, api.Twofish, api.Aria, api.Rc5}
}

// QuickTags are a tag for each length of a block.
func QuickTags() []int { return []int{api.Xtea, api.Twofish} }

// Outside are numbers under least and over most, also those that a narrower number
// would take for one between.
func Outside(least, most int) []int {
	out := []int{math.MinInt, math.MinInt + least, -most, -least, least - 1, most + 1, most + 2, math.MaxInt}
	for _, bits := range []int{8, 16, 32} {
		for _, n := range []int{least, most} {
			out = append(out, 1<<bits+n, -1<<bits+n)
		}
	}
	return slices.DeleteFunc(out, func(n int) bool { return n >= least && n <= most })
}

// Raw is a text of signs 0 to 9, A to F, as bytes.
func Raw(text string) []byte {
	var b []byte
	for ; len(text) > 0; text = text[2:] {
		v, e := strconv.ParseUint(text[:2], 16, 8)
		if e != nil {
			panic(e)
		}
		b = append(b, byte(v))
	}
	return b
}

func Cipher(t probe.Tester, tag int, key []byte) *cipher.Cipher {
	t.Helper()
	c, e := cipher.New(tag, key)
	if e != api.OK {
		t.Fatalf("New of %d: %v", tag, e)
	}
	return c
}

// Thrown is a cipher of that tag, by some key.
func Thrown(t probe.Tester, d *dice.Dice, tag int) *cipher.Cipher {
	t.Helper()
	lengths := cipher.Lengths(tag)
	return Cipher(t, tag, d.Bytes(lengths[d.Below(len(lengths))]))
}

// Each calls for each of those modes, either way, by a cipher of each of those tags.
func Each(t probe.Tester, d *dice.Dice, tags, modes []int, call func(c *cipher.Cipher, mode int, back bool)) {
	t.Helper()
	for _, tag := range tags {
		for _, mode := range modes {
			for _, back := range []bool{false, true} {
				call(Thrown(t, d, tag), mode, back)
			}
		}
	}
}

// Turned is a block by E or D.
func Turned(t probe.Tester, c *cipher.Cipher, back bool, b []byte) []byte {
	t.Helper()
	call := c.Enc
	if back {
		call = c.Dec
	}
	out, e := call(b)
	if e != api.OK {
		t.Fatalf("% X, %v: %v", b, back, e)
	}
	return out
}

// Plus is a and as many bytes of b, byte by byte.
func Plus(a, b []byte) []byte {
	out := slices.Clone(a)
	for i := range out {
		out[i] ^= b[i]
	}
	return out
}

// Asked is all that a message is turned by.
type Asked struct {
	api.Config
	Key, IV []byte
}

// MayBe tells whether a message of n bytes may be.
func (x Asked) MayBe(n int) bool {
	size := cipher.Size(x.Tag)
	switch {
	case x.Mode >= api.Cs1:
		return n >= size
	case x.Mode >= api.Cfb8:
		return true
	case x.Pad == api.None:
		return n%size == 0
	}
	return !x.Back || n > 0 && n%size == 0
}

// Other is x the other way about.
func (x Asked) Other() Asked {
	x.Back = !x.Back
	return x
}

// OfOneList is x by a key and an iv that are taken from one list, and that list.
func (x Asked) OfOneList(d *dice.Dice) (Asked, []byte) {
	b := d.Bytes(48)
	x.Key, x.IV = b[:len(x.Key)], b[:len(x.IV)]
	return x, b
}

// Fault is what may be wrong with what is asked for, and how that is refused.
type Fault struct {
	Spoil func(x *Asked)
	E     api.Errno
}

// Faults are one for each of its parts, in the order in which they are refused.
func Faults() []Fault {
	return []Fault{
		{func(x *Asked) { x.Tag += api.Rc5 }, api.BadTag},
		{func(x *Asked) { x.Key = append(slices.Clone(x.Key), 0) }, api.BadKey},
		{func(x *Asked) { x.Mode += api.Cs3 }, api.BadMode},
		{func(x *Asked) { x.Pad -= api.None }, api.BadMode},
		{func(x *Asked) { x.IV = append(slices.Clone(x.IV), 0) }, api.BadIV},
	}
}

// Old is what others have told, from memory: what becomes of a text.
type Old struct {
	Asked
	Text, Hidden []byte
}

// OldDes are DES of one text in each of the modes of old, by one key and one iv.
func OldDes() []Old {
	var out []Old
	for _, x := range []struct {
		mode   int
		hidden string
	}{
		{api.Ecb, "3FA40E8A984D48156A271787AB8883F9893D51EC4B563B53"},
		{api.Cbc, "E5C7CDDE872BF27C43E934008C389C0F683788499A7C05F6"},
		{api.Cfb8, "F31FDA07011462EE187F43D80A7CD9B5B0D290DA6E5B9A87"},
		{api.Cfb, "F3096249C7F46E51A69E839B1A92F78403467133898EA622"},
		{api.Ofb, "F3096249C7F46E5135F24A242EEB3D3F3D6D5BE3255AF8C3"},
	} {
		c := api.Config{Tag: api.Des, Mode: x.mode, Pad: api.None}
		asked := Asked{c, Raw("0123456789ABCDEF"), Raw("1234567890ABCDEF")}
		if x.mode == api.Ecb {
			asked.IV = nil
		}
		out = append(out, Old{asked, []byte("Now is the time for all "), Raw(x.hidden)})
	}
	return out
}

// EachAsked calls for each mode, either way, with each padding that goes with it, by
// each of those tags.
func EachAsked(d *dice.Dice, tags []int, call func(x Asked)) {
	for _, tag := range tags {
		for mode := api.Ecb; mode <= api.Cs3; mode++ {
			for kind := leastPad(mode); kind <= api.None; kind++ {
				for _, back := range []bool{false, true} {
					call(ThrownAsked(d, api.Config{Tag: tag, Mode: mode, Pad: kind, Back: back}))
				}
			}
		}
	}
}

// SomeAsked is all of EachAsked, shuffled, so that each comes behind any other.
func SomeAsked(d *dice.Dice, tags []int) []Asked {
	var all, out []Asked
	EachAsked(d, tags, func(x Asked) { all = append(all, x) })
	for _, i := range d.Shuffled(len(all)) {
		out = append(out, all[i-1])
	}
	return out
}

// leastPad is the first of the paddings that go with a mode; None is the last one.
func leastPad(mode int) int {
	if mode <= api.Cbc {
		return api.Pkcs7
	}
	return api.None
}

// ThrownAsked is what c asks for, by some key and some iv that may be.
func ThrownAsked(d *dice.Dice, c api.Config) Asked {
	lengths, ivBytes := cipher.Lengths(c.Tag), cipher.Size(c.Tag)
	if c.Mode == api.Ecb {
		ivBytes = 0
	}
	return Asked{c, d.Bytes(lengths[d.Below(len(lengths))]), d.Bytes(ivBytes)}
}

// AnyAsked is something that may be asked for, or may not.
func AnyAsked(d *dice.Dice) Asked {
	c := api.Config{Tag: anyNumber(d, api.Rc5), Mode: anyNumber(d, api.Cs3), Pad: anyNumber(d, api.None), Back: d.Below(2) == 0}
	return Asked{c, d.Bytes(8 * d.Below(6)), d.Bytes(8 * d.Below(4))}
}

// anyNumber is mostly one of 1 to most, or a neighbour of these.
func anyNumber(d *dice.Dice, most int) int {
	if d.Below(20) == 0 {
		return int(d.Next())
	}
	return d.Below(most+4) - 1
}

// Cut is m in pieces of up to most bytes, none too.
func Cut(d *dice.Dice, m []byte, most int) [][]byte {
	var out [][]byte
	for len(m) > 0 {
		n := min(d.Below(most+1), len(m))
		out, m = append(out, m[:n]), m[n:]
	}
	return out
}
