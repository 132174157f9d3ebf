package small_test

import (
	"bytes"
	"encoding/hex"
	"math"
	"slices"
	"strings"
	"testing"

	"scrim/api"
	"scrim/dice"
	"scrim/probe"
	"scrim/small"
)

// tags are the three.
func tags() []int { return []int{api.Xtea, api.Magma, api.Rc5} }

// noTags are none of the three: other ciphers' tags, and what is no tag at all.
func noTags() []int {
	return []int{
		api.Des, api.Tdes, api.Idea, api.Twofish, api.Aria,
		math.MinInt, math.MinInt + 4, -1 << 32, -8, -5, -4, -1, 0, 9, 10, 12, 16, 32,
		256 + api.Xtea, 1<<16 + api.Magma, 1<<32 + api.Rc5, 1<<32 + api.Xtea, math.MaxInt - 1, math.MaxInt,
	}
}

// keySize is how many bytes a key has.
func keySize(tag int) int {
	if tag == api.Magma {
		return 32
	}
	return 16
}

// raw is a text of signs 0 to 9, A to F, as bytes.
func raw(text string) []byte {
	b, e := hex.DecodeString(strings.ReplaceAll(text, " ", ""))
	if e != nil {
		panic(e)
	}
	return b
}

// at is the word of b that begins at byte i, the highest or the lowest byte first.
func at(b []byte, i int, lowestFirst bool) uint32 {
	four := slices.Clone(b[i : i+4])
	if lowestFirst {
		slices.Reverse(four)
	}
	var v uint32
	for _, x := range four {
		v = v*256 + uint32(x)
	}
	return v
}

// told are two words as bytes.
func told(v, w uint32, lowestFirst bool) []byte {
	var b []byte
	for _, x := range []uint32{v, w} {
		four := []byte{byte(x / 16777216), byte(x / 65536), byte(x / 256), byte(x)}
		if lowestFirst {
			slices.Reverse(four)
		}
		b = append(b, four...)
	}
	return b
}

// leftBy turns one bit at a time.
func leftBy(v, n uint32) uint32 {
	for range n % 32 {
		v = v*2 + v/2147483648
	}
	return v
}

// mixed is G as the promise words it, by signs.
func mixed(x, k uint32) uint32 {
	const signs = "0123456789ABCDEF"
	sum := uint64(x) + uint64(k)
	var out, unit uint32 = 0, 1
	for _, row := range []string{
		"C462A5B9E8D703F1", "68239A5C1E47BD0F", "B3582FADE174C960", "C821D4F670A53E9B",
		"7F5A816D093EB42C", "5DF692CAB78143E0", "8E25691CF4B0DA37", "17ED05834FA69CB2",
	} {
		out += unit * uint32(strings.IndexByte(signs, row[sum%16]))
		sum, unit = sum/16, unit*16
	}
	return leftBy(out, 11)
}

// passed is a block, there, as the promise words it.
func passed(tag int, key, b []byte) []byte {
	switch tag {
	case api.Xtea:
		return passedXtea(key, b)
	case api.Magma:
		return passedMagma(key, b)
	}
	return passedRc5(key, b)
}

func passedXtea(key, b []byte) []byte {
	v, w, s := at(b, 0, false), at(b, 4, false), uint32(0)
	for range 32 {
		v = v + ((((w * 16) ^ (w / 32)) + w) ^ (s + at(key, int(s%4)*4, false)))
		s = s + 0x9E3779B9
		w = w + ((((v * 16) ^ (v / 32)) + v) ^ (s + at(key, int(s/2048%4)*4, false)))
	}
	return told(v, w, false)
}

func passedMagma(key, b []byte) []byte {
	a, c := at(b, 0, false), at(b, 4, false)
	for _, i := range []int{
		0, 1, 2, 3, 4, 5, 6, 7, 0, 1, 2, 3, 4, 5, 6, 7,
		0, 1, 2, 3, 4, 5, 6, 7, 7, 6, 5, 4, 3, 2, 1, 0,
	} {
		a, c = c, a^mixed(c, at(key, 4*i, false))
	}
	return told(c, a, false)
}

func passedRc5(key, b []byte) []byte {
	s := [26]uint32{0xB7E15163}
	for i := 1; i <= 25; i++ {
		s[i] = s[i-1] + 0x9E3779B9
	}
	var l [4]uint32
	for j := range l {
		l[j] = at(key, 4*j, true)
	}
	var x, y uint32
	i, j := 0, 0
	for range 78 {
		s[i] = leftBy(s[i]+x+y, 3)
		x = s[i]
		l[j] = leftBy(l[j]+x+y, x+y)
		y = l[j]
		if i++; i > 25 {
			i = 0
		}
		if j++; j > 3 {
			j = 0
		}
	}
	x, y = at(b, 0, true)+s[0], at(b, 4, true)+s[1]
	for r := 1; r <= 12; r++ {
		x = leftBy(x^y, y) + s[2*r]
		y = leftBy(y^x, x) + s[2*r+1]
	}
	return told(x, y, true)
}

// made is New of what may be.
func made(t *testing.T, tag int, key []byte) *small.Small {
	t.Helper()
	x, e := small.New(tag, key)
	if e != api.OK || x == nil {
		t.Fatalf("New of %d, % X: %v", tag, key, e)
	}
	return x
}

// Lengths that may not be, also where the room behind would fill them up.
func TestP801New(t *testing.T) {
	room := dice.New(801).Bytes(80)
	for _, tag := range tags() {
		for n := range 70 {
			x, e := small.New(tag, room[:n])
			may := n == keySize(tag)
			if may && (e != api.OK || x == nil) || !may && (e != api.BadKey || x != nil) {
				t.Errorf("New of %d, %d bytes: %v, %v", tag, n, x, e)
			}
		}
		if x, e := small.New(tag, nil); e != api.BadKey || x != nil {
			t.Errorf("New of %d, no key: %v, %v", tag, x, e)
		}
	}
}

// A tag that is none of the three is told ahead of a key that may not be (P6).
func TestP801NewRefusesTags(t *testing.T) {
	for _, tag := range noTags() {
		for _, n := range []int{0, 1, 8, 15, 16, 17, 24, 31, 32, 33, 64} {
			if x, e := small.New(tag, make([]byte, n)); e != api.BadTag || x != nil {
				t.Errorf("New of %d, %d bytes: %v, %v", tag, n, x, e)
			}
		}
		if x, e := small.New(tag, nil); e != api.BadTag || x != nil { // the chapter's example
			t.Errorf("New of %d, no key: %v, %v", tag, x, e)
		}
	}
}

// Examples that others have told, from memory.
func TestP801G(t *testing.T) {
	for _, x := range [][3]uint32{
		{0x87654321, 0xFEDCBA98, 0xFDCBC20C},
		{0xFDCBC20C, 0x87654321, 0x7E791A4B},
		{0x7E791A4B, 0xFDCBC20C, 0xC76549EC},
		{0xC76549EC, 0x7E791A4B, 0x9791C849},
	} {
		if got := small.G(x[0], x[1]); got != x[2] {
			t.Errorf("G of %08X, %08X: %08X, not %08X", x[0], x[1], got, x[2])
		}
	}
}

// Each four of bits at each place, handed in as either one of the two.
func TestP801GOfEachFour(t *testing.T) {
	for place := range 8 {
		for four := range uint32(16) {
			v := four << (4 * place)
			want := mixed(v, 0)
			if one, other := small.G(v, 0), small.G(0, v); one != want || other != want {
				t.Errorf("G of %08X: %08X, %08X, not %08X", v, one, other, want)
			}
		}
	}
}

// Sums of any, and of those that come round.
func TestP801GOfAny(t *testing.T) {
	d := dice.New(802)
	edges := []uint32{0, 1, 15, 16, 0x7FFFFFFF, 0x80000000, 0x80000001, 0xFFFFFFF0, 0xFFFFFFFE, 0xFFFFFFFF}
	all := slices.Clone(edges)
	for range 100 {
		all = append(all, uint32(d.Next()))
	}
	for _, x := range all {
		for _, k := range all {
			if got, want := small.G(x, k), mixed(x, k); got != want {
				t.Fatalf("G of %08X, %08X: %08X, not %08X", x, k, got, want)
			}
		}
	}
}

// Examples that others have told, from memory.
func TestP801Block(t *testing.T) {
	const (
		rising = "000102030405060708090A0B0C0D0E0F"
		none   = "00000000000000000000000000000000"
		falls  = "FFEEDDCCBBAA99887766554433221100F0F1F2F3F4F5F6F7F8F9FAFBFCFDFEFF"
	)
	for _, x := range []struct {
		tag          int
		key, b, want string
	}{
		{api.Xtea, rising, "4142434445464748", "497DF3D072612CB5"},
		{api.Xtea, rising, "4141414141414141", "E78F2D13744341D8"},
		{api.Xtea, rising, "5A5B6E278948D77F", "4141414141414141"},
		{api.Xtea, none, "4142434445464748", "A0390589F8B8EFA5"},
		{api.Xtea, none, "4141414141414141", "ED23375A821A8C2D"},
		{api.Xtea, none, "70E1225D6E4E7655", "4141414141414141"},
		{api.Magma, falls, "FEDCBA9876543210", "4EE901E5C2D8CA3D"},
		{api.Rc5, none, "0000000000000000", "21A5DBEE154B8F6D"},
		{api.Rc5, "915F4619BE41B2516355A50110A9CE91", "21A5DBEE154B8F6D", "F7C013AC5B2B8952"},
		{api.Rc5, "783348E75AEB0F2FD7B169BB8DC16787", "F7C013AC5B2B8952", "2F42B3B70369FC92"},
		{api.Rc5, "DC49DB1375A5584F6485B413B5F12BAF", "2F42B3B70369FC92", "65C178B284D197CC"},
		{api.Rc5, "5269F149D41BA0152497574D7F153125", "65C178B284D197CC", "EB44E415DA319824"},
	} {
		d := made(t, x.tag, raw(x.key))
		if got := probe.Turned(t, d, raw(x.b), false); !bytes.Equal(got, raw(x.want)) {
			t.Errorf("%d: Block of %s by %s: %X, not %s", x.tag, x.b, x.key, got, x.want)
		}
		if got := probe.Turned(t, d, raw(x.want), true); !bytes.Equal(got, raw(x.b)) {
			t.Errorf("%d: Block of %s by %s, back: %X, not %s", x.tag, x.want, x.key, got, x.b)
		}
	}
}

// check holds a block against the reference, there and back: of what is answered
// back, the reference makes the block.
func check(t *testing.T, tag int, key, b []byte) {
	t.Helper()
	x := made(t, tag, key)
	if got, want := probe.Turned(t, x, b, false), passed(tag, key, b); !bytes.Equal(got, want) {
		t.Fatalf("%d: Block of % X by % X: % X, not % X", tag, b, key, got, want)
	}
	if got := probe.Turned(t, x, b, true); !bytes.Equal(passed(tag, key, got), b) {
		t.Fatalf("%d: Block of % X by % X, back: % X", tag, b, key, got)
	}
}

func TestP801BlockOfAny(t *testing.T) {
	d := dice.New(803)
	for _, tag := range tags() {
		for range 1500 {
			check(t, tag, d.Bytes(keySize(tag)), d.Bytes(8))
		}
	}
}

// atTheEdge throws n bytes of words that are the least, the greatest and the like.
func atTheEdge(d *dice.Dice, n int) []byte {
	var b []byte
	for len(b) < n {
		v := []uint32{0, 1, 31, 32, 0x7FFFFFFF, 0x80000000, 0xFFFFFFFE, 0xFFFFFFFF}[d.Below(8)]
		b = append(b, told(v, 0, d.Below(2) == 0)[:4]...)
	}
	return b
}

// Words that are the least, the greatest and their neighbours; keys and blocks of
// one and the same byte, through and through; keys and blocks of one bit.
func TestP801BlockAtTheEdges(t *testing.T) {
	d := dice.New(804)
	for _, tag := range tags() {
		size := keySize(tag)
		for range 700 {
			check(t, tag, atTheEdge(d, size), atTheEdge(d, 8))
		}
		for _, k := range []byte{0x00, 0x01, 0x80, 0xFF} {
			for _, b := range []byte{0x00, 0x01, 0x80, 0xFF} {
				check(t, tag, bytes.Repeat([]byte{k}, size), bytes.Repeat([]byte{b}, 8))
			}
		}
		for i := range 8 * size {
			key, b := make([]byte, size), make([]byte, 8)
			key[i/8], b[i/8%8] = 0x80>>(i%8), 0x80>>(i%8)
			check(t, tag, key, make([]byte, 8))
			check(t, tag, make([]byte, size), b)
		}
	}
}

func TestP801BlockRefuses(t *testing.T) {
	d := dice.New(805)
	for _, tag := range tags() {
		probe.Refuses(t, d, made(t, tag, d.Bytes(keySize(tag))), 8)
	}
}

func TestP802ThereAndBack(t *testing.T) {
	d := dice.New(806)
	for _, tag := range tags() {
		for range 1500 {
			probe.ThereAndBack(t, made(t, tag, d.Bytes(keySize(tag))), d.Bytes(8))
		}
	}
}

// Each bit of a key and of a block counts, and two blocks make two (T4).
func TestP802EachBitCounts(t *testing.T) {
	d := dice.New(807)
	for _, tag := range tags() {
		probe.EachBitCounts(t, d.Bytes(keySize(tag)), d.Bytes(8), func(key []byte) probe.Cipher {
			return made(t, tag, key)
		})
	}
}

// The three are three: of one key and one block each makes another one, as do the
// two ways of each.
func TestP802ThreeOfThem(t *testing.T) {
	d := dice.New(808)
	for range 50 {
		key, b := d.Bytes(32), d.Bytes(8)
		all := map[string]int{string(b): 1}
		for _, tag := range tags() {
			x := made(t, tag, key[:keySize(tag)])
			all[string(probe.Turned(t, x, b, false))]++
			all[string(probe.Turned(t, x, b, true))]++
		}
		if len(all) != 7 {
			t.Fatalf("% X by % X comes to %d blocks, not 7", b, key, len(all))
		}
	}
}

// New changes no key and keeps none: what becomes of it does not count.
func TestP2P3NewLeavesAll(t *testing.T) {
	d := dice.New(809)
	for _, tag := range tags() {
		size := keySize(tag)
		for range 50 {
			room, b := d.Bytes(50), d.Bytes(8)
			had := bytes.Clone(room)
			x := made(t, tag, room[:size])
			small.New(tag, room[:size+1])
			small.New(api.Des, room[:size])
			if !bytes.Equal(room, had) {
				t.Fatalf("%d: New touches what is handed in", tag)
			}
			dice.Spoil(room)
			there := probe.Turned(t, x, b, false)
			if !bytes.Equal(there, passed(tag, had[:size], b)) || !bytes.Equal(probe.Turned(t, x, there, true), b) {
				t.Fatalf("%d: New keeps a key", tag)
			}
		}
	}
}

func TestP2P3BlockLeavesAll(t *testing.T) {
	d := dice.New(810)
	for _, tag := range tags() {
		for range 3 {
			probe.LeavesAll(t, d, made(t, tag, d.Bytes(keySize(tag))), 8)
		}
	}
}

func TestP3GAnswersTheSame(t *testing.T) {
	ask := func(seed uint64) (all [300]uint32) {
		d := dice.New(seed)
		for i := range all {
			all[i] = small.G(uint32(d.Next()), uint32(d.Next()))
		}
		return all
	}
	first := ask(3)
	ask(4)
	if ask(3) != first {
		t.Error("not the same again")
	}
}

// Several, of one key or of others, of one tag or of others, side by side, do not
// touch one another.
func TestP7SideBySide(t *testing.T) {
	d := dice.New(811)
	var all []probe.Known
	for _, tag := range slices.Concat(tags(), tags()) {
		key := d.Bytes(keySize(tag))
		all = append(all, probe.Known{
			Made:  func() probe.Cipher { small.New(tag, nil); return made(t, tag, key) },
			There: func(b []byte) []byte { return passed(tag, key, b) },
		})
	}
	probe.SideBySide(t, d.Bytes(8), all)
}

// One that New has not made.
func TestP1BlockOfOneThatIsNotMade(t *testing.T) {
	probe.Ends(&small.Small{}, 8)
}
