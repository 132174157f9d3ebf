package cipher_test

import (
	"bytes"
	stdcipher "crypto/cipher"
	stddes "crypto/des"
	"encoding/hex"
	"math"
	"slices"
	"testing"

	"scrim/api"
	"scrim/aria"
	"scrim/cipher"
	"scrim/des"
	"scrim/dice"
	"scrim/idea"
	"scrim/probe"
	"scrim/small"
	"scrim/twofish"
)

// kind is a row of the chapter's table.
type kind struct {
	tag, block int
	keys       []int
}

func kinds() []kind {
	return []kind{
		{api.Des, 8, []int{8}},
		{api.Tdes, 8, []int{16, 24}},
		{api.Idea, 8, []int{16}},
		{api.Xtea, 8, []int{16}},
		{api.Rc5, 8, []int{16}},
		{api.Magma, 8, []int{32}},
		{api.Twofish, 16, []int{16, 24, 32}},
		{api.Aria, 16, []int{16, 24, 32}},
	}
}

// noTags are no tags at all, also those that a narrower number would take for one.
func noTags() []int {
	return []int{
		0, -1, -2, -7, -8, 9, 10, 16, 255, 256 + api.Des, 1<<16 + api.Aria, 1<<32 + api.Tdes, 1<<32 + api.Rc5,
		-1 << 32, -1<<32 + api.Idea, math.MinInt, math.MinInt + api.Des, math.MaxInt - 1, math.MaxInt,
	}
}

// keyed is a tag with a length that its keys may have.
type keyed struct{ tag, block, key int }

func eachLength() []keyed {
	var out []keyed
	for _, k := range kinds() {
		for _, n := range k.keys {
			out = append(out, keyed{k.tag, k.block, n})
		}
	}
	return out
}

// raw is a text of signs 0 to 9, A to F, as bytes.
func raw(text string) []byte {
	b, e := hex.DecodeString(text)
	if e != nil {
		panic(e)
	}
	return b
}

// asked is a Cipher as package probe asks for one.
type asked struct{ *cipher.Cipher }

func (x asked) Block(b []byte, back bool) ([]byte, api.Errno) {
	if back {
		return x.Dec(b)
	}
	return x.Enc(b)
}

// made is New of what may be.
func made(t *testing.T, tag int, key []byte) asked {
	t.Helper()
	c, e := cipher.New(tag, key)
	if e != api.OK || c == nil {
		t.Fatalf("New of %d, % X: %v", tag, key, e)
	}
	return asked{c}
}

// ofItsPackage is the cipher that the promise names, made by its own package.
func ofItsPackage(t *testing.T, tag int, key []byte) probe.Cipher {
	t.Helper()
	var c probe.Cipher
	var e api.Errno
	switch tag {
	case api.Des, api.Tdes:
		c, e = des.New(key)
	case api.Idea:
		c, e = idea.New(key)
	case api.Xtea, api.Magma, api.Rc5:
		c, e = small.New(tag, key)
	case api.Twofish:
		c, e = twofish.New(key)
	case api.Aria:
		c, e = aria.New(key)
	default:
		e = api.BadTag
	}
	if e != api.OK {
		t.Fatalf("%d by % X, by its own package: %v", tag, key, e)
	}
	return c
}

func TestP1101Size(t *testing.T) {
	for _, k := range kinds() {
		if got := cipher.Size(k.tag); got != k.block {
			t.Errorf("Size of %d: %d, not %d", k.tag, got, k.block)
		}
	}
	for _, tag := range noTags() { // the chapter's example is among them
		if got := cipher.Size(tag); got != 0 {
			t.Errorf("Size of %d: %d", tag, got)
		}
	}
}

func TestP1101Lengths(t *testing.T) {
	for _, k := range kinds() {
		if got := cipher.Lengths(k.tag); !slices.Equal(got, k.keys) {
			t.Errorf("Lengths of %d: %v, not %v", k.tag, got, k.keys)
		}
	}
	for _, tag := range noTags() {
		if got := cipher.Lengths(tag); len(got) != 0 {
			t.Errorf("Lengths of %d: %v", tag, got)
		}
	}
}

// Lengths that may not be, of other tags' keys too, also where the room behind
// would fill them up.
func TestP1101New(t *testing.T) {
	room := dice.New(1101).Bytes(100)
	for _, k := range kinds() {
		for n := range 90 {
			c, e := cipher.New(k.tag, room[:n])
			if slices.Contains(k.keys, n) {
				if e != api.OK || c == nil {
					t.Errorf("New of %d, %d bytes: %v, %v", k.tag, n, c, e)
				}
			} else if e != api.BadKey || c != nil {
				t.Errorf("New of %d, %d bytes: %v, %v", k.tag, n, c, e)
			}
		}
		if c, e := cipher.New(k.tag, nil); e != api.BadKey || c != nil {
			t.Errorf("New of %d, no key: %v, %v", k.tag, c, e)
		}
	}
}

// A tag that is none is told ahead of a key that may not be (P6).
func TestP1101NewRefusesTags(t *testing.T) {
	room := dice.New(1102).Bytes(100)
	for _, tag := range noTags() {
		for n := range 40 {
			if c, e := cipher.New(tag, room[:n]); e != api.BadTag || c != nil {
				t.Errorf("New of %d, %d bytes: %v, %v", tag, n, c, e)
			}
		}
		if c, e := cipher.New(tag, nil); e != api.BadTag || c != nil {
			t.Errorf("New of %d, no key: %v, %v", tag, c, e)
		}
	}
}

// It stays, whatever is turned or refused between.
func TestP1101SizeOfOne(t *testing.T) {
	d := dice.New(1103)
	for _, k := range eachLength() {
		c := made(t, k.tag, d.Bytes(k.key))
		for range 2 {
			if got := c.Size(); got != k.block {
				t.Errorf("Size of one of %d: %d, not %d", k.tag, got, k.block)
			}
			c.Enc(d.Bytes(k.block))
			c.Dec(d.Bytes(k.block - 1))
		}
	}
}

// Examples that others have told, from memory, of each tag and each length of
// its keys but 16 bytes of Tdes, which the language's own holds.
func TestP1101EncDecAsTold(t *testing.T) {
	const (
		none   = "00000000000000000000000000000000"
		rising = "000102030405060708090A0B0C0D0E0F101112131415161718191A1B1C1D1E1F"
		steps  = "00112233445566778899AABBCCDDEEFF"
		ferns  = "0123456789ABCDEFFEDCBA987654321000112233445566778899AABBCCDDEEFF"
		falls  = "FFEEDDCCBBAA99887766554433221100F0F1F2F3F4F5F6F7F8F9FAFBFCFDFEFF"
	)
	for _, x := range []struct {
		tag          int
		key, b, want string
	}{
		{api.Des, "133457799BBCDFF1", "0123456789ABCDEF", "85E813540F0AB405"},
		{api.Tdes, "0123456789ABCDEF23456789ABCDEF01456789ABCDEF0123", "5468652071756663", "A826FD8CE53B855F"},
		{api.Idea, "00010002000300040005000600070008", "0000000100020003", "11FBED2B01986DE5"},
		{api.Xtea, rising[:32], "4142434445464748", "497DF3D072612CB5"},
		{api.Magma, falls, "FEDCBA9876543210", "4EE901E5C2D8CA3D"},
		{api.Rc5, "915F4619BE41B2516355A50110A9CE91", "21A5DBEE154B8F6D", "F7C013AC5B2B8952"},
		{api.Twofish, none, none, "9F589F5CF6122C32B6BFEC2F2AE8C35A"},
		{api.Twofish, ferns[:48], none, "CFD1D2E5A9BE9CDF501F13B892BD2248"},
		{api.Twofish, ferns, none, "37527BE0052334B89F0CFCCAE87CFA20"},
		{api.Aria, rising[:32], steps, "D718FBD6AB644C739DA95F3BE6451778"},
		{api.Aria, rising[:48], steps, "26449C1805DBE7AA25A468CE263A9E79"},
		{api.Aria, rising, steps, "F92BD7C79FB72E2F2B8F80C1972D24FC"},
	} {
		c := made(t, x.tag, raw(x.key))
		if got, e := c.Enc(raw(x.b)); e != api.OK || !bytes.Equal(got, raw(x.want)) {
			t.Errorf("%d: Enc of %s by %s: %X, %v, not %s", x.tag, x.b, x.key, got, e, x.want)
		}
		if got, e := c.Dec(raw(x.want)); e != api.OK || !bytes.Equal(got, raw(x.b)) {
			t.Errorf("%d: Dec of %s by %s: %X, %v, not %s", x.tag, x.want, x.key, got, e, x.b)
		}
	}
}

// library is the language's own DES or three of it.
func library(t *testing.T, key []byte) stdcipher.Block {
	t.Helper()
	if len(key) == 16 {
		key = slices.Concat(key, key[:8])
	}
	one, e := stddes.NewCipher(key[:8])
	if len(key) == 24 {
		one, e = stddes.NewTripleDESCipher(key)
	}
	if e != nil {
		t.Fatal(e)
	}
	return one
}

func TestP1101DesAndTdesByTheLanguagesOwn(t *testing.T) {
	d := dice.New(1104)
	for _, k := range []keyed{{api.Des, 8, 8}, {api.Tdes, 8, 16}, {api.Tdes, 8, 24}} {
		for range 50 {
			key, b, want := d.Bytes(k.key), d.Bytes(k.block), make([]byte, k.block)
			c, own := made(t, k.tag, key), library(t, key)
			own.Encrypt(want, b)
			if got, e := c.Enc(b); e != api.OK || !bytes.Equal(got, want) {
				t.Fatalf("%d: Enc of % X by % X: % X, %v, not % X", k.tag, b, key, got, e, want)
			}
			own.Decrypt(want, b)
			if got, e := c.Dec(b); e != api.OK || !bytes.Equal(got, want) {
				t.Fatalf("%d: Dec of % X by % X: % X, %v, not % X", k.tag, b, key, got, e, want)
			}
		}
	}
}

// check holds a block against the cipher's own package, there and back.
func check(t *testing.T, tag int, key, b []byte) {
	t.Helper()
	c, own := made(t, tag, key), ofItsPackage(t, tag, key)
	for _, back := range []bool{false, true} {
		got, want := probe.Turned(t, c, b, back), probe.Turned(t, own, b, back)
		if !bytes.Equal(got, want) {
			t.Fatalf("%d: % X by % X, %v: % X, not % X", tag, b, key, back, got, want)
		}
	}
}

// Any; of one and the same byte, through and through; of one bit.
func TestP1101EncDec(t *testing.T) {
	d := dice.New(1105)
	for _, k := range eachLength() {
		for range 30 {
			check(t, k.tag, d.Bytes(k.key), d.Bytes(k.block))
		}
		for _, v := range []byte{0x00, 0x01, 0x80, 0xFF} {
			check(t, k.tag, bytes.Repeat([]byte{v}, k.key), bytes.Repeat([]byte{^v}, k.block))
			check(t, k.tag, bytes.Repeat([]byte{v}, k.key), bytes.Repeat([]byte{v}, k.block))
		}
		for i := range 8 * k.block {
			key, b := make([]byte, k.key), make([]byte, k.block)
			key[i%k.key], b[i/8] = 0x80>>(i%8), 0x80>>(i%8)
			check(t, k.tag, key, b)
		}
	}
}

// No two tags, and no two lengths of one tag's keys, are one cipher.
func TestP1101NoTwoAreOne(t *testing.T) {
	d := dice.New(1106)
	key, b := d.Bytes(32), d.Bytes(16)
	seen := map[string]int{}
	for _, k := range eachLength() {
		c := made(t, k.tag, key[:k.key])
		seen[string(probe.Turned(t, c, b[:k.block], false))]++
		seen[string(probe.Turned(t, c, b[:k.block], true))]++
	}
	if len(seen) != 2*len(eachLength()) {
		t.Errorf("%d blocks, not %d", len(seen), 2*len(eachLength()))
	}
}

// Lists of other lengths, also a block of another cipher's.
func TestP1101EncDecRefuse(t *testing.T) {
	d := dice.New(1107)
	for _, k := range eachLength() {
		probe.Refuses(t, d, made(t, k.tag, d.Bytes(k.key)), k.block)
	}
}

func TestP1102ThereAndBack(t *testing.T) {
	d := dice.New(1108)
	for _, k := range eachLength() {
		for range 60 {
			probe.ThereAndBack(t, made(t, k.tag, d.Bytes(k.key)), d.Bytes(k.block))
		}
	}
}

// Two blocks make two, either way (T4).
func TestP1102AnotherOneForEachBlock(t *testing.T) {
	d := dice.New(1109)
	for _, k := range eachLength() {
		c, b := made(t, k.tag, d.Bytes(k.key)), d.Bytes(k.block)
		for _, back := range []bool{false, true} {
			seen := map[string]int{}
			for i := range 256 {
				b[i%k.block]++
				seen[string(probe.Turned(t, c, b, back))]++
			}
			if len(seen) != 256 {
				t.Errorf("%d, %v: of 256 blocks %d", k.tag, back, len(seen))
			}
		}
	}
}

// New changes no key and keeps none: what becomes of it does not count.
func TestP2P3NewLeavesAll(t *testing.T) {
	d := dice.New(1110)
	for _, k := range eachLength() {
		for range 10 {
			room, b := d.Bytes(100), d.Bytes(k.block)
			had := bytes.Clone(room)
			c := made(t, k.tag, room[:k.key])
			cipher.New(k.tag, room[:k.key+1])
			cipher.New(0, room[:k.key])
			if !bytes.Equal(room, had) {
				t.Fatalf("New of %d touches what is handed in", k.tag)
			}
			dice.Spoil(room)
			own := ofItsPackage(t, k.tag, had[:k.key])
			for _, back := range []bool{false, true} {
				if !bytes.Equal(probe.Turned(t, c, b, back), probe.Turned(t, own, b, back)) {
					t.Fatalf("New of %d keeps a key", k.tag)
				}
			}
		}
	}
}

func TestP2P3EncDecLeaveAll(t *testing.T) {
	d := dice.New(1111)
	for _, k := range eachLength() {
		probe.LeavesAll(t, d, made(t, k.tag, d.Bytes(k.key)), k.block)
	}
}

// Lengths is new at each call, its spare room too: who writes over one changes
// none told earlier or later, and no key is refused that may be.
func TestP2P3LengthsIsNew(t *testing.T) {
	for _, k := range kinds() {
		earlier, one := cipher.Lengths(k.tag), cipher.Lengths(k.tag)
		dice.Spoil(one)
		if later := cipher.Lengths(k.tag); !slices.Equal(earlier, k.keys) || !slices.Equal(later, k.keys) {
			t.Errorf("Lengths of %d: %v, then %v, not %v", k.tag, earlier, later, k.keys)
		}
		made(t, k.tag, make([]byte, k.keys[0]))
	}
}

// Several, of one tag or of others, by one key or by others, side by side, do not
// touch one another; nor does what New refuses (P5).
func TestP5P7SideBySide(t *testing.T) {
	d := dice.New(1112)
	for _, block := range []int{8, 16} {
		var all []probe.Known
		for _, k := range slices.Concat(eachLength(), eachLength()) {
			if k.block != block {
				continue
			}
			key := d.Bytes(k.key)
			all = append(all, probe.Known{
				Made: func() probe.Cipher {
					cipher.New(k.tag, nil)
					cipher.New(-k.tag, key)
					return made(t, k.tag, key)
				},
				There: func(b []byte) []byte { return probe.Turned(t, ofItsPackage(t, k.tag, key), b, false) },
			})
		}
		probe.SideBySide(t, d.Bytes(block), all)
	}
}

// One that New has not made.
func TestP1OneThatIsNotMade(t *testing.T) {
	c := asked{&cipher.Cipher{}}
	c.Size()
	probe.Ends(c, 16)
}
