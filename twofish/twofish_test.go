package twofish_test

import (
	"bytes"
	"encoding/hex"
	"math"
	"slices"
	"strings"
	"testing"

	"scrim/api"
	"scrim/dice"
	"scrim/probe"
	"scrim/twofish"
)

// sizes are how many bytes a key may have.
func sizes() []int { return []int{16, 24, 32} }

// raw is a text of signs 0 to 9, A to F, as bytes.
func raw(text string) []byte {
	b, e := hex.DecodeString(strings.ReplaceAll(text, " ", ""))
	if e != nil {
		panic(e)
	}
	return b
}

// wordsOf throws n of them.
func wordsOf(d *dice.Dice, n int) []uint32 {
	l := make([]uint32, n)
	for i := range l {
		l[i] = uint32(d.Next())
	}
	return l
}

// edges are words that are the least, the greatest and the like.
func edges() []uint32 {
	return []uint32{0, 1, 0x80, 0xFF, 0x100, 0x01010101, 0x7FFFFFFF, 0x80000000, 0x80808080, 0xFF000000, 0xFFFFFFFE, 0xFFFFFFFF}
}

// atTheEdge throws n words of those.
func atTheEdge(d *dice.Dice, n int) []uint32 {
	l := make([]uint32, n)
	for i := range l {
		l[i] = edges()[d.Below(len(edges()))]
	}
	return l
}

// made is New of what may be.
func made(t *testing.T, key []byte) *twofish.Twofish {
	t.Helper()
	x, e := twofish.New(key)
	if e != api.OK || x == nil {
		t.Fatalf("New of % X: %v", key, e)
	}
	return x
}

func TestP901Q(t *testing.T) {
	for which := range 2 {
		for x := range 256 {
			got, want := twofish.Q(which, byte(x)), referenceQ(which, byte(x))
			if got != want {
				t.Errorf("Q of %d, %02X: %02X, not %02X", which, x, got, want)
			}
		}
	}
}

// The first bytes of both, as others have told them, from memory.
func TestP901QAsTold(t *testing.T) {
	for which, want := range []string{"A967B3E804FDA3769A928078E4DDD138", "75F3C6F4DB7BFBC84AD3E66B457DE84B"} {
		for x, y := range raw(want) {
			if got := twofish.Q(which, byte(x)); got != y {
				t.Errorf("Q of %d, %02X: %02X, not %02X", which, x, got, y)
			}
		}
	}
}

func TestP901QRefuses(t *testing.T) {
	for _, which := range []int{-1, -2, 2, 3, 256, 257, 1 << 32, 1<<32 + 1, math.MinInt, math.MinInt + 1, math.MaxInt} {
		for x := range 256 {
			if got := twofish.Q(which, byte(x)); got != 0 {
				t.Errorf("Q of %d, %02X: %02X", which, x, got)
			}
		}
	}
}

// checkH holds H against the reference.
func checkH(t *testing.T, x uint32, l []uint32) {
	t.Helper()
	if got, want := twofish.H(x, l), referenceH(x, l); got != want {
		t.Fatalf("H of %08X, %08X: %08X, not %08X", x, l, got, want)
	}
}

func TestP901H(t *testing.T) {
	d := dice.New(901)
	for range 2000 {
		for n := 2; n <= 4; n++ {
			checkH(t, uint32(d.Next()), wordsOf(d, n))
		}
	}
}

// Each byte at each place, in x and in each word of the list; the least and the
// greatest words.
func TestP901HAtTheEdges(t *testing.T) {
	d := dice.New(902)
	for n := 2; n <= 4; n++ {
		for place := range 4 * (n + 1) {
			for v := range uint32(256) {
				l := make([]uint32, n+1)
				l[place/4] = v << (8 * (place % 4))
				checkH(t, l[0], l[1:])
			}
		}
		for range 500 {
			checkH(t, atTheEdge(d, 1)[0], atTheEdge(d, n))
		}
	}
}

// Lists of other lengths, also where the room behind would fill them up.
func TestP901HRefuses(t *testing.T) {
	d := dice.New(903)
	room := wordsOf(d, 40)
	for n := range 40 {
		x := uint32(d.Next())
		if got := twofish.H(x, room[:n]); n >= 2 && n <= 4 && got != referenceH(x, room[:n]) || (n < 2 || n > 4) && got != 0 {
			t.Errorf("H of %08X, %d words: %08X", x, n, got)
		}
	}
	if got := twofish.H(0xFFFFFFFF, nil); got != 0 {
		t.Errorf("H of no words: %08X", got)
	}
}

// checkKeys holds Keys against the reference.
func checkKeys(t *testing.T, key []byte) {
	t.Helper()
	k, s, e := twofish.Keys(key)
	wantK, wantS := referenceKeys(key)
	if e != api.OK || !slices.Equal(k, wantK) || !slices.Equal(s, wantS) {
		t.Fatalf("Keys of % X: %08X, %08X, %v, not %08X, %08X", key, k, s, e, wantK, wantS)
	}
}

func TestP902Keys(t *testing.T) {
	d := dice.New(904)
	for _, size := range sizes() {
		for range 200 {
			checkKeys(t, d.Bytes(size))
		}
	}
}

// Keys of one bit, of one and the same byte, of the least and the greatest words.
func TestP902KeysAtTheEdges(t *testing.T) {
	d := dice.New(905)
	for _, size := range sizes() {
		for i := range 8 * size {
			key := make([]byte, size)
			key[i/8] = 0x80 >> (i % 8)
			checkKeys(t, key)
		}
		for _, v := range []byte{0x00, 0x01, 0x80, 0xFF} {
			checkKeys(t, bytes.Repeat([]byte{v}, size))
		}
		for range 100 {
			checkKeys(t, told(atTheEdge(d, size/4)...))
		}
	}
}

// Examples that others have told, from memory.
func TestP902KeysAsTold(t *testing.T) {
	for _, x := range []struct {
		key     string
		k, s    []uint32
		lastKey uint32
	}{
		{"00000000000000000000000000000000", []uint32{0x52C54DDE, 0x11F0626D, 0x7CAC9D4A, 0x4D1B4AAA}, []uint32{0, 0}, 0x696EA672},
		{"0123456789ABCDEFFEDCBA98765432100011223344556677", []uint32{0x38394A24, 0xC36D1175, 0xE802528F, 0x219BFEB4}, []uint32{0x45661061, 0xB255BC4B, 0xB89FF6F2}, 0x6A1AD61E},
		{"0123456789ABCDEFFEDCBA987654321000112233445566778899AABBCCDDEEFF", []uint32{0x5EC769BF, 0x44D13C60}, []uint32{0x8E4447F7, 0x45661061, 0xB255BC4B, 0xB89FF6F2}, 0xF0D54DCD},
	} {
		k, s, e := twofish.Keys(raw(x.key))
		if e != api.OK || len(k) != 40 || !slices.Equal(k[:len(x.k)], x.k) || k[39] != x.lastKey || !slices.Equal(s, x.s) {
			t.Errorf("Keys of %s: %08X, %08X, %v", x.key, k, s, e)
		}
	}
}

// Lengths that may not be, also where the room behind would fill them up; New
// takes and refuses the same ones.
func TestP902P903KeysAndNewRefuse(t *testing.T) {
	room := dice.New(906).Bytes(140)
	keys := [][]byte{nil}
	for n := range 130 {
		keys = append(keys, room[:n])
	}
	for _, key := range keys {
		k, s, e := twofish.Keys(key)
		x, f := twofish.New(key)
		n := len(key)
		if slices.Contains(sizes(), n) {
			if e != api.OK || f != api.OK || len(k) != 40 || len(s) != n/8 || x == nil {
				t.Errorf("%d bytes: %08X, %08X, %v; %v, %v", n, k, s, e, x, f)
			}
		} else if e != api.BadKey || f != api.BadKey || len(k)+len(s) > 0 || x != nil {
			t.Errorf("%d bytes: %08X, %08X, %v; %v, %v", n, k, s, e, x, f)
		}
	}
}

// Examples that others have told, from memory.
func TestP903BlockAsTold(t *testing.T) {
	const none = "00000000000000000000000000000000"
	for _, x := range [][3]string{
		{none, none, "9F589F5CF6122C32B6BFEC2F2AE8C35A"},
		{none, "9F589F5CF6122C32B6BFEC2F2AE8C35A", "D491DB16E7B1C39E86CB086B789F5419"},
		{"9F589F5CF6122C32B6BFEC2F2AE8C35A", "D491DB16E7B1C39E86CB086B789F5419", "019F9809DE1711858FAAC3A3BA20FBC3"},
		{"D491DB16E7B1C39E86CB086B789F5419", "019F9809DE1711858FAAC3A3BA20FBC3", "6363977DE839486297E661C6C9D668EB"},
		{"0123456789ABCDEFFEDCBA98765432100011223344556677", none, "CFD1D2E5A9BE9CDF501F13B892BD2248"},
		{"0123456789ABCDEFFEDCBA987654321000112233445566778899AABBCCDDEEFF", none, "37527BE0052334B89F0CFCCAE87CFA20"},
	} {
		d := made(t, raw(x[0]))
		if got := probe.Turned(t, d, raw(x[1]), false); !bytes.Equal(got, raw(x[2])) {
			t.Errorf("Block of %s by %s: %X, not %s", x[1], x[0], got, x[2])
		}
		if got := probe.Turned(t, d, raw(x[2]), true); !bytes.Equal(got, raw(x[1])) {
			t.Errorf("Block of %s by %s, back: %X, not %s", x[2], x[0], got, x[1])
		}
	}
}

// check holds a block against the reference, there and back: of what is answered
// back, the reference makes the block.
func check(t *testing.T, key, b []byte) {
	t.Helper()
	x := made(t, key)
	if got, want := probe.Turned(t, x, b, false), referenceBlock(key, b); !bytes.Equal(got, want) {
		t.Fatalf("Block of % X by % X: % X, not % X", b, key, got, want)
	}
	if got := probe.Turned(t, x, b, true); !bytes.Equal(referenceBlock(key, got), b) {
		t.Fatalf("Block of % X by % X, back: % X", b, key, got)
	}
}

func TestP903BlockOfAny(t *testing.T) {
	d := dice.New(907)
	for _, size := range sizes() {
		for range 150 {
			check(t, d.Bytes(size), d.Bytes(16))
		}
	}
}

// Words that are the least, the greatest and their neighbours; keys and blocks of
// one and the same byte, through and through; keys and blocks of one bit.
func TestP903BlockAtTheEdges(t *testing.T) {
	d := dice.New(908)
	for _, size := range sizes() {
		for range 100 {
			check(t, told(atTheEdge(d, size/4)...), told(atTheEdge(d, 4)...))
		}
		for _, k := range []byte{0x00, 0x01, 0x80, 0xFF} {
			for _, b := range []byte{0x00, 0x01, 0x80, 0xFF} {
				check(t, bytes.Repeat([]byte{k}, size), bytes.Repeat([]byte{b}, 16))
			}
		}
		for i := range 128 {
			key, b := make([]byte, size), make([]byte, 16)
			b[i/8] = 0x80 >> (i % 8)
			check(t, key, b)
		}
	}
}

func TestP903BlockRefuses(t *testing.T) {
	d := dice.New(909)
	for _, size := range sizes() {
		probe.Refuses(t, d, made(t, d.Bytes(size)), 16)
	}
}

func TestP904QMakesEachByteOfOne(t *testing.T) {
	for which := range 2 {
		var from [256]int
		for x := range 256 {
			from[twofish.Q(which, byte(x))]++
		}
		for y, n := range from {
			if n != 1 {
				t.Errorf("Q of %d makes %02X of %d bytes", which, y, n)
			}
		}
	}
}

func TestP904ThereAndBack(t *testing.T) {
	d := dice.New(910)
	for _, size := range sizes() {
		for range 200 {
			probe.ThereAndBack(t, made(t, d.Bytes(size)), d.Bytes(16))
		}
	}
}

// Each bit of a key and of a block counts, and two blocks make two (T4).
func TestP904EachBitCounts(t *testing.T) {
	d := dice.New(911)
	for _, size := range sizes() {
		probe.EachBitCounts(t, d.Bytes(size), d.Bytes(16), func(key []byte) probe.Cipher {
			return made(t, key)
		})
	}
}

// New and Keys change no key and keep none: what becomes of it does not count.
func TestP2P3NewAndKeysLeaveAll(t *testing.T) {
	d := dice.New(912)
	for _, size := range sizes() {
		for range 20 {
			room, b := d.Bytes(100), d.Bytes(16)
			had := bytes.Clone(room)
			x := made(t, room[:size])
			k, s, _ := twofish.Keys(room[:size])
			twofish.New(room[:size+1])
			twofish.Keys(room[:size-1])
			if !bytes.Equal(room, had) {
				t.Fatalf("a key of %d bytes is touched", size)
			}
			dice.Spoil(room)
			there := probe.Turned(t, x, b, false)
			if !bytes.Equal(there, referenceBlock(had[:size], b)) || !bytes.Equal(probe.Turned(t, x, there, true), b) {
				t.Fatalf("New keeps a key of %d bytes", size)
			}
			if wantK, wantS := referenceKeys(had[:size]); !slices.Equal(k, wantK) || !slices.Equal(s, wantS) {
				t.Fatalf("Keys of %d bytes shares with its key", size)
			}
		}
	}
}

// The two lists share none, with each other, with a later answer, with a Twofish.
func TestP2P3KeysShareNone(t *testing.T) {
	d := dice.New(913)
	for _, size := range sizes() {
		key, b := d.Bytes(size), d.Bytes(16)
		wantK, wantS := referenceKeys(key)
		x := made(t, key)
		k, s, _ := twofish.Keys(key)
		dice.Spoil(k)
		if !slices.Equal(s, wantS) {
			t.Errorf("%d bytes: the two lists share", size)
		}
		dice.Spoil(s)
		checkKeys(t, key)
		k, s, _ = twofish.Keys(key)
		dice.Spoil(s)
		if !slices.Equal(k, wantK) {
			t.Errorf("%d bytes: the two lists share", size)
		}
		if !bytes.Equal(probe.Turned(t, x, b, false), referenceBlock(key, b)) {
			t.Errorf("%d bytes: Keys shares with a Twofish", size)
		}
	}
}

func TestP2P3HLeavesAll(t *testing.T) {
	d := dice.New(914)
	for n := range 7 {
		room := wordsOf(d, 12)
		had := slices.Clone(room)
		first := twofish.H(7, room[:n])
		twofish.H(8, wordsOf(d, 2+n%3))
		if !slices.Equal(room, had) {
			t.Errorf("H of %d words touches what is handed in", n)
		}
		if twofish.H(7, room[:n]) != first {
			t.Errorf("H of %d words: not the same again", n)
		}
	}
}

func TestP2P3BlockLeavesAll(t *testing.T) {
	d := dice.New(915)
	for _, size := range sizes() {
		for range 3 {
			probe.LeavesAll(t, d, made(t, d.Bytes(size)), 16)
		}
	}
}

// Several, of one key or of others, side by side, do not touch one another.
func TestP7SideBySide(t *testing.T) {
	d := dice.New(916)
	var all []probe.Known
	for _, size := range slices.Concat(sizes(), sizes()) {
		key := d.Bytes(size)
		all = append(all, probe.Known{
			Made:  func() probe.Cipher { twofish.New(nil); return made(t, key) },
			There: func(b []byte) []byte { return referenceBlock(key, b) },
		})
	}
	probe.SideBySide(t, d.Bytes(16), all)
}

// One that New has not made.
func TestP1BlockOfOneThatIsNotMade(t *testing.T) {
	probe.Ends(&twofish.Twofish{}, 16)
}
