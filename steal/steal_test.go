package steal_test

import (
	"bytes"
	stdcipher "crypto/cipher"
	stddes "crypto/des"
	"math"
	"slices"
	"testing"

	"scrim/api"
	"scrim/cipher"
	"scrim/dice"
	"scrim/modes"
	"scrim/steal"
	"scrim/supply"
)

func allModes() []int { return []int{api.Cs1, api.Cs2, api.Cs3} }

// noModes are none of this layer's, also those that a narrower number would take
// for one.
func noModes() []int {
	return []int{
		0, api.Ecb, api.Cbc, api.Cfb8, api.Cfb, api.Ofb, api.Ctr, 10, 11, 255, 256 + api.Cs1, 1<<16 + api.Cs2,
		1<<32 + api.Cs3, -1, -7, -8, -9, -1 << 32, -1<<32 + api.Cs1, math.MinInt, math.MinInt + api.Cs2, math.MaxInt,
	}
}

// each calls for each mode, either way, by a cipher of each tag.
func each(t *testing.T, d *dice.Dice, call func(c *cipher.Cipher, mode int, back bool)) {
	t.Helper()
	supply.Each(t, d, supply.AllTags(), allModes(), call)
}

// stolen is Tail of what may be.
func stolen(t *testing.T, c *cipher.Cipher, mode int, back bool, last, b []byte) []byte {
	t.Helper()
	out, e := steal.Tail(c, mode, back, last, b)
	if e != api.OK || len(out) != len(b) {
		t.Fatalf("Tail of mode %d, %v, % X, % X: % X, %v", mode, back, last, b, out, e)
	}
	return out
}

func refused(t *testing.T, c *cipher.Cipher, mode int, back bool, last, b []byte, want api.Errno) {
	t.Helper()
	if out, e := steal.Tail(c, mode, back, last, b); e != want || len(out) != 0 {
		t.Errorf("Tail of mode %d, %v, %d and %d bytes: % X, %v, not %v", mode, back, len(last), len(b), out, e, want)
	}
}

func check(t *testing.T, c *cipher.Cipher, mode int, back bool, last, b []byte) {
	t.Helper()
	got, want := stolen(t, c, mode, back, last, b), told(t, c, mode, back, last, b)
	if !bytes.Equal(got, want) {
		t.Fatalf("mode %d, %v, % X behind % X: % X, not % X", mode, back, b, last, got, want)
	}
}

// checkEitherWay holds what is known from elsewhere, there and back.
func checkEitherWay(t *testing.T, c *cipher.Cipher, mode int, last, b, want []byte) {
	t.Helper()
	if got := stolen(t, c, mode, false, last, b); !bytes.Equal(got, want) {
		t.Errorf("mode %d, % X: %X, not %X", mode, b, got, want)
	}
	if got := stolen(t, c, mode, true, last, want); !bytes.Equal(got, b) {
		t.Errorf("mode %d, % X, back: %X, not %X", mode, want, got, b)
	}
}

// Of each number of bytes, from one block to two.
func TestP1301Tail(t *testing.T) {
	d := dice.New(1301)
	each(t, d, func(c *cipher.Cipher, mode int, back bool) {
		for n := c.Size(); n <= 2*c.Size(); n++ {
			for range 3 {
				check(t, c, mode, back, d.Bytes(c.Size()), d.Bytes(n))
			}
		}
	})
}

// Bytes that are one and the same through and through.
func TestP1301TailOfEdges(t *testing.T) {
	each(t, dice.New(1302), func(c *cipher.Cipher, mode int, back bool) {
		size := c.Size()
		for _, v := range []byte{0x00, 0x01, 0x80, 0xFF} {
			for _, w := range []byte{0x00, 0x80, 0xFF} {
				for _, n := range []int{size, size + 1, size + size/2, 2*size - 1, 2 * size} {
					check(t, c, mode, back, bytes.Repeat([]byte{v}, size), bytes.Repeat([]byte{w}, n))
				}
			}
		}
	})
}

// DES in Cbc, of whole blocks.
func TestP1301TailAsTold(t *testing.T) {
	for _, x := range supply.OldDes() {
		if x.Mode == api.Cbc {
			checkTold(t, x)
		}
	}
}

// checkTold holds three blocks of Cbc: each alone, and two that are next to each other.
func checkTold(t *testing.T, x supply.Old) {
	t.Helper()
	c, text, chain := supply.Cipher(t, x.Tag, x.Key), x.Text, x.Hidden
	first, second, third := chain[:8], chain[8:16], chain[16:]
	for _, mode := range allModes() {
		checkEitherWay(t, c, mode, x.IV, text[:8], first)
		checkEitherWay(t, c, mode, first, text[8:16], second)
		checkEitherWay(t, c, mode, second, text[16:], third)
		early, late := chain[:16], chain[8:]
		if mode == api.Cs3 {
			early, late = slices.Concat(second, first), slices.Concat(third, second)
		}
		checkEitherWay(t, c, mode, x.IV, text[:16], early)
		checkEitherWay(t, c, mode, first, text[8:], late)
	}
}

// The language's own Cbc over its own DES: noughts fill the last block up, and of
// the one ahead of it as many bytes are left out.
func TestP1301TailByTheLanguagesOwn(t *testing.T) {
	d := dice.New(1303)
	for n := 8; n <= 16; n++ {
		for range 20 {
			key, last, b := d.Bytes(8), d.Bytes(8), d.Bytes(n)
			own, e := stddes.NewCipher(key)
			if e != nil {
				t.Fatal(e)
			}
			cbc := make([]byte, (n+7)/8*8)
			copy(cbc, b)
			stdcipher.NewCBCEncrypter(own, last).CryptBlocks(cbc, cbc)
			ahead, y := cbc[:n-8], cbc[len(cbc)-8:]
			straight, swapped := slices.Concat(ahead, y), slices.Concat(y, ahead)
			second := swapped
			if n == 16 {
				second = straight
			}
			c := supply.Cipher(t, api.Des, key)
			checkEitherWay(t, c, api.Cs1, last, b, straight)
			checkEitherWay(t, c, api.Cs2, last, b, second)
			checkEitherWay(t, c, api.Cs3, last, b, swapped)
		}
	}
}

// One block alone is as in Cbc, whichever mode; so are two in Cs1 and Cs2.
func TestP1301TailOfBlocksIsCbc(t *testing.T) {
	d := dice.New(1304)
	each(t, d, func(c *cipher.Cipher, mode int, back bool) {
		blocks := 2
		if mode == api.Cs3 {
			blocks = 1
		}
		for n := range blocks {
			last, b := d.Bytes(c.Size()), d.Bytes((n+1)*c.Size())
			m, e := modes.New(c, api.Cbc, back, last)
			if e != api.OK {
				t.Fatal(e)
			}
			want, _ := m.Step(b)
			if got := stolen(t, c, mode, back, last, b); !bytes.Equal(got, want) {
				t.Errorf("mode %d, %v, %d blocks: % X, not % X", mode, back, n+1, got, want)
			}
		}
	})
}

// A mode that is none is told ahead of all else that may not be (P6).
func TestP1301TailRefusesModes(t *testing.T) {
	room := dice.New(1305).Bytes(60)
	for _, tag := range supply.AllTags() {
		c := supply.Thrown(t, dice.New(1306), tag)
		for _, mode := range noModes() {
			for n := range 3*c.Size() + 2 {
				refused(t, c, mode, n%2 == 0, room[:c.Size()], room[:n], api.BadMode)
				refused(t, c, mode, n%2 == 1, room[:n], room[:n], api.BadMode)
			}
			refused(t, c, mode, false, nil, nil, api.BadMode)
		}
	}
}

// A last block of another length is told ahead of bytes of a length that may not
// be; also where the room behind would fill it up.
func TestP1301TailRefusesLast(t *testing.T) {
	d := dice.New(1307)
	room := d.Bytes(60)
	each(t, d, func(c *cipher.Cipher, mode int, back bool) {
		size := c.Size()
		for n := range 3 * size {
			if n == size {
				continue
			}
			for _, k := range []int{0, size - 1, size, size + 1, 2 * size, 2*size + 1} {
				refused(t, c, mode, back, room[:n], room[:k], api.BadIV)
			}
		}
		refused(t, c, mode, back, nil, room[:size], api.BadIV)
		refused(t, c, mode, back, nil, nil, api.BadIV)
	})
}

// Fewer bytes than a block has, the chapter's example among them, or more than
// two have; also where the room behind would fill them up.
func TestP1301TailRefusesLengths(t *testing.T) {
	d := dice.New(1308)
	room := d.Bytes(100)
	each(t, d, func(c *cipher.Cipher, mode int, back bool) {
		size := c.Size()
		last := d.Bytes(size)
		for n := range 5 * size {
			if n < size || n > 2*size {
				refused(t, c, mode, back, last, room[:n], api.BadLength)
			}
		}
		refused(t, c, mode, back, last, nil, api.BadLength)
		refused(t, c, mode, back, last, []byte{}, api.BadLength)
	})
}

// The modes are others just where X' and Y are swapped.
func TestP1301NoTwoAreOne(t *testing.T) {
	d := dice.New(1309)
	for _, tag := range supply.QuickTags() {
		c := supply.Thrown(t, d, tag)
		size := c.Size()
		for n := size; n <= 2*size; n++ {
			last, b := d.Bytes(size), d.Bytes(n)
			for _, back := range []bool{false, true} {
				one, two, three := stolen(t, c, api.Cs1, back, last, b), stolen(t, c, api.Cs2, back, last, b), stolen(t, c, api.Cs3, back, last, b)
				whole := n == size || n == 2*size
				if bytes.Equal(one, two) != whole || bytes.Equal(two, three) != (n < 2*size) || bytes.Equal(one, three) != (n == size) {
					t.Errorf("%v, %d bytes: % X, % X, % X", back, n, one, two, three)
				}
			}
		}
	}
}

// Whichever way is first (T2).
func TestP1302ThereAndBack(t *testing.T) {
	d := dice.New(1310)
	each(t, d, func(c *cipher.Cipher, mode int, back bool) {
		for n := c.Size(); n <= 2*c.Size(); n++ {
			for range 3 {
				last, b := d.Bytes(c.Size()), d.Bytes(n)
				first := stolen(t, c, mode, back, last, b)
				if got := stolen(t, c, mode, !back, last, first); !bytes.Equal(got, b) {
					t.Fatalf("mode %d, %v, %d bytes: % X is not % X", mode, back, n, got, b)
				}
			}
		}
	})
}

// Tail changes nothing that it is handed, and shares none of it with an answer; no
// later call touches an answer; the same call answers the same again.
func TestP2P3TailLeavesAll(t *testing.T) {
	d := dice.New(1311)
	each(t, d, func(c *cipher.Cipher, mode int, back bool) {
		size := c.Size()
		for n := size; n <= 2*size; n++ {
			last, room := d.Bytes(3*size), d.Bytes(4*size)
			hadLast, hadRoom := bytes.Clone(last), bytes.Clone(room)
			want := told(t, c, mode, back, last[:size], room[:n])
			first := stolen(t, c, mode, back, last[:size], room[:n])
			stolen(t, c, mode, !back, last[size:2*size], room[n:2*n])
			if !bytes.Equal(first, want) {
				t.Fatalf("mode %d, %v: an answer is written over", mode, back)
			}
			dice.Spoil(first)
			steal.Tail(c, mode, back, last[:size+1], room[:n])
			steal.Tail(c, mode, back, last[:size], room[:size-1])
			if !bytes.Equal(last, hadLast) || !bytes.Equal(room, hadRoom) {
				t.Fatalf("mode %d, %v: what is handed in is touched", mode, back)
			}
			second := stolen(t, c, mode, back, last[:size], room[:n])
			dice.Spoil(last)
			dice.Spoil(room)
			if !bytes.Equal(second, want) {
				t.Fatalf("mode %d, %v: not the same again", mode, back)
			}
		}
	})
}

// One list may be handed in twice.
func TestP2TailOfOneListTwice(t *testing.T) {
	d := dice.New(1312)
	each(t, d, func(c *cipher.Cipher, mode int, back bool) {
		for n := c.Size(); n <= 2*c.Size(); n++ {
			b := d.Bytes(n)
			check(t, c, mode, back, b[:c.Size()], b)
			check(t, c, mode, back, b[n-c.Size():], b)
		}
	})
}

// Several ciphers in turns, with what is refused between: the one does not touch
// the other, and each turns blocks as it did.
func TestP5P7SideBySide(t *testing.T) {
	type side struct {
		c             *cipher.Cipher
		mode          int
		back          bool
		last, b, want []byte
		block         []byte
	}
	d := dice.New(1313)
	var all []side
	each(t, d, func(c *cipher.Cipher, mode int, back bool) {
		last, b := d.Bytes(c.Size()), d.Bytes(c.Size()+d.Below(c.Size()+1))
		all = append(all, side{c, mode, back, last, b, told(t, c, mode, back, last, b), supply.Turned(t, c, back, last)})
	})
	for range 3 {
		for i, x := range all {
			if got := stolen(t, x.c, x.mode, x.back, x.last, x.b); !bytes.Equal(got, x.want) {
				t.Fatalf("the %d-th is touched by others: % X, not % X", i+1, got, x.want)
			}
			refused(t, x.c, 0, x.back, x.last, x.b, api.BadMode)
			refused(t, x.c, x.mode, x.back, x.b[1:x.c.Size()], x.b, api.BadIV)
			refused(t, x.c, x.mode, !x.back, x.last, x.b[:1], api.BadLength)
			if got := supply.Turned(t, x.c, x.back, x.last); !bytes.Equal(got, x.block) {
				t.Fatalf("the %d-th cipher is touched: % X, not % X", i+1, got, x.block)
			}
		}
	}
}

// A cipher that none has made.
func TestP1OneThatIsNotMade(t *testing.T) {
	c, room := &cipher.Cipher{}, make([]byte, 40)
	for mode := -1; mode < 12; mode++ {
		for n := range len(room) {
			for _, k := range []int{0, 1, 8, 16, n} {
				for _, back := range []bool{false, true} {
					if out, e := steal.Tail(c, mode, back, room[:k], room[:n]); e == api.OK || len(out) != 0 {
						t.Errorf("Tail of mode %d, %d and %d bytes: % X, %v", mode, k, n, out, e)
					}
				}
			}
		}
	}
}
