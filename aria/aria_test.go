package aria_test

import (
	"bytes"
	"encoding/hex"
	"math"
	"slices"
	"strings"
	"testing"

	"scrim/api"
	"scrim/aria"
	"scrim/dice"
	"scrim/probe"
)

// sizes are how many bytes a key may have.
func sizes() []int { return []int{16, 24, 32} }

// raw is a text of signs 0 to 9, A to F, as bytes.
func raw(text string) []byte {
	b, e := hex.DecodeString(strings.ReplaceAll(text, " ", ""))
	if e != nil {
		panic(e)
	}
	return b
}

// made is New of what may be.
func made(t *testing.T, key []byte) *aria.Aria {
	t.Helper()
	x, e := aria.New(key)
	if e != api.OK || x == nil {
		t.Fatalf("New of % X: %v", key, e)
	}
	return x
}

func mixed(t *testing.T, b []byte) []byte {
	t.Helper()
	out, ok := aria.Mix(b)
	if !ok || len(out) != 16 {
		t.Fatalf("Mix of % X: % X, %v", b, out, ok)
	}
	return out
}

func layered(t *testing.T, which int, b []byte) []byte {
	t.Helper()
	out, ok := aria.Layer(which, b)
	if !ok || len(out) != 16 {
		t.Fatalf("Layer %d of % X: % X, %v", which, b, out, ok)
	}
	return out
}

// Each byte by itself, all of its bits; all the same; any.
func TestP1001Mix(t *testing.T) {
	d := dice.New(1001)
	var all [][]byte
	for place := range 16 {
		for v := range 256 {
			b := make([]byte, 16)
			b[place] = byte(v)
			all = append(all, b)
		}
	}
	for v := range 256 {
		all = append(all, bytes.Repeat([]byte{byte(v)}, 16), d.Bytes(16))
	}
	for _, b := range all {
		if got, want := mixed(t, b), referenceMix(b); !bytes.Equal(got, want) {
			t.Errorf("Mix of % X: % X, not % X", b, got, want)
		}
	}
}

func TestP1001MixOfOneByte(t *testing.T) {
	b := make([]byte, 16)
	b[5] = 0x81
	if got := mixed(t, b); !bytes.Equal(got, raw("00 81 00 81 81 00 00 00 00 81 81 00 00 00 81 81")) {
		t.Errorf("Mix of % X: % X", b, got)
	}
}

// Each byte at each place.
func TestP1001Layer(t *testing.T) {
	for which := 1; which <= 2; which++ {
		for v := range 256 {
			b := make([]byte, 16)
			for i := range b {
				b[i] = byte(v + 37*i)
			}
			if got, want := layered(t, which, b), referenceLayer(which, b); !bytes.Equal(got, want) {
				t.Errorf("Layer %d of % X: % X, not % X", which, b, got, want)
			}
		}
	}
}

// The first bytes of S1, S2, X1, X2, as others have told them, from memory.
func TestP1001LayerAsTold(t *testing.T) {
	for table, row := range []string{"637C777BF26B6FC5", "E24E54FC94C24ACC", "52096AD53036A538", "3068991B87B92178"} {
		for x, y := range raw(row) {
			b := bytes.Repeat([]byte{byte(x)}, 16)
			one, two := layered(t, 1, b), layered(t, 2, b)
			for place := table; place < 16; place += 4 {
				if one[place] != y || two[place^2] != y {
					t.Errorf("Layers of %02X: % X, % X", x, one, two)
				}
			}
		}
	}
}

// Lists of other lengths, also where the room behind would fill them up, and
// other layers.
func TestP1001MixAndLayerRefuse(t *testing.T) {
	room := dice.New(1002).Bytes(80)
	lists := [][]byte{nil}
	for n := range 70 {
		lists = append(lists, room[:n])
	}
	whiches := []int{1, 2, 0, -1, -2, 3, 4, 5, 6, 257, 258, 1<<32 + 1, 1<<32 + 2, math.MinInt, math.MinInt + 1, math.MaxInt}
	for _, b := range lists {
		if got, ok := aria.Mix(b); ok != (len(b) == 16) || !ok && len(got) != 0 {
			t.Errorf("Mix of %d bytes: % X, %v", len(b), got, ok)
		}
		for _, which := range whiches {
			may := len(b) == 16 && (which == 1 || which == 2)
			if got, ok := aria.Layer(which, b); ok != may || !ok && len(got) != 0 {
				t.Errorf("Layer %d of %d bytes: % X, %v", which, len(b), got, ok)
			}
		}
	}
}

// checkKeys holds Keys against the reference.
func checkKeys(t *testing.T, key []byte) {
	t.Helper()
	got, e := aria.Keys(key)
	if want := referenceKeys(key); e != api.OK || !slices.EqualFunc(got, want, bytes.Equal) {
		t.Fatalf("Keys of % X: %X, %v, not %X", key, got, e, want)
	}
}

// Any; of one bit; of one and the same byte; the one half noughts.
func TestP1002Keys(t *testing.T) {
	d := dice.New(1003)
	for _, size := range sizes() {
		for range 60 {
			checkKeys(t, d.Bytes(size))
		}
		for i := range 8 * size {
			key := make([]byte, size)
			key[i/8] = 0x80 >> (i % 8)
			checkKeys(t, key)
		}
		for _, v := range []byte{0x00, 0x01, 0x80, 0xFF} {
			checkKeys(t, bytes.Repeat([]byte{v}, size))
		}
		checkKeys(t, slices.Concat(d.Bytes(16), make([]byte, size-16)))
		checkKeys(t, slices.Concat(make([]byte, 16), d.Bytes(size-16)))
	}
}

// An example that others have told, from memory.
func TestP1002KeysAsTold(t *testing.T) {
	keys, e := aria.Keys(raw("000102030405060708090A0B0C0D0E0F"))
	if e != api.OK || len(keys) != 13 {
		t.Fatalf("%X, %v", keys, e)
	}
	for i, want := range map[int]string{
		0:  "D415A75C794B85C5E0D2A0B3CB793BF6",
		1:  "369C65E4B11777AB713A3E1E6601B8F4",
		2:  "0368D4F13D14497B6529AD7AC809E7D0",
		3:  "C644552B549A263FB8D0B50906229EEC",
		12: "0F0AA16DAEE61BD7DFEE5A599970FB35",
	} {
		if !bytes.Equal(keys[i], raw(want)) {
			t.Errorf("key %d: %X, not %s", i+1, keys[i], want)
		}
	}
}

// Lengths that may not be, also where the room behind would fill them up; New
// takes and refuses the same ones. The chapter's example is among them.
func TestP1002P1003KeysAndNewRefuse(t *testing.T) {
	room := dice.New(1004).Bytes(140)
	keys := [][]byte{nil}
	for n := range 130 {
		keys = append(keys, room[:n])
	}
	many := map[int]int{16: 13, 24: 15, 32: 17}
	for _, key := range keys {
		k, e := aria.Keys(key)
		x, f := aria.New(key)
		n := len(key)
		if slices.Contains(sizes(), n) {
			if e != api.OK || f != api.OK || len(k) != many[n] || x == nil {
				t.Errorf("%d bytes: %X, %v; %v, %v", n, k, e, x, f)
			}
		} else if e != api.BadKey || f != api.BadKey || len(k) > 0 || x != nil {
			t.Errorf("%d bytes: %X, %v; %v, %v", n, k, e, x, f)
		}
	}
}

// Examples that others have told, from memory.
func TestP1003BlockAsTold(t *testing.T) {
	const long, block = "000102030405060708090A0B0C0D0E0F101112131415161718191A1B1C1D1E1F", "00112233445566778899AABBCCDDEEFF"
	for _, x := range [][3]string{
		{long[:32], block, "D718FBD6AB644C739DA95F3BE6451778"},
		{long[:48], block, "26449C1805DBE7AA25A468CE263A9E79"},
		{long, block, "F92BD7C79FB72E2F2B8F80C1972D24FC"},
		{block, "11111111AAAAAAAA11111111BBBBBBBB", "C6ECD08E22C30ABDB215CF74E2075E6E"},
	} {
		d := made(t, raw(x[0]))
		if got := probe.Turned(t, d, raw(x[1]), false); !bytes.Equal(got, raw(x[2])) {
			t.Errorf("Block of %s by %s: %X, not %s", x[1], x[0], got, x[2])
		}
		if got := probe.Turned(t, d, raw(x[2]), true); !bytes.Equal(got, raw(x[1])) {
			t.Errorf("Block of %s by %s, back: %X, not %s", x[2], x[0], got, x[1])
		}
	}
}

// check holds a block against the reference, there and back: of what is answered
// back, the reference makes the block.
func check(t *testing.T, key, b []byte) {
	t.Helper()
	x := made(t, key)
	if got, want := probe.Turned(t, x, b, false), referenceBlock(key, b); !bytes.Equal(got, want) {
		t.Fatalf("Block of % X by % X: % X, not % X", b, key, got, want)
	}
	if got := probe.Turned(t, x, b, true); !bytes.Equal(referenceBlock(key, got), b) {
		t.Fatalf("Block of % X by % X, back: % X", b, key, got)
	}
}

func TestP1003BlockOfAny(t *testing.T) {
	d := dice.New(1005)
	for _, size := range sizes() {
		for range 80 {
			check(t, d.Bytes(size), d.Bytes(16))
		}
	}
}

// Keys and blocks of one and the same byte, through and through; keys and blocks
// of one bit.
func TestP1003BlockAtTheEdges(t *testing.T) {
	for _, size := range sizes() {
		for _, k := range []byte{0x00, 0x01, 0x80, 0xFF} {
			for _, b := range []byte{0x00, 0x01, 0x80, 0xFF} {
				check(t, bytes.Repeat([]byte{k}, size), bytes.Repeat([]byte{b}, 16))
			}
		}
		for i := range 8 * size {
			key, b := make([]byte, size), make([]byte, 16)
			key[i/8] = 0x80 >> (i % 8)
			check(t, key, b)
			b[i/8%16] = 0x80 >> (i % 8)
			check(t, make([]byte, size), b)
		}
	}
}

func TestP1003BlockRefuses(t *testing.T) {
	d := dice.New(1006)
	for _, size := range sizes() {
		probe.Refuses(t, d, made(t, d.Bytes(size)), 16)
	}
}

// What one of them makes, Mix and the other layer undo.
func TestP1004MixAndLayersUndo(t *testing.T) {
	d := dice.New(1007)
	for range 300 {
		b := d.Bytes(16)
		if got := mixed(t, mixed(t, b)); !bytes.Equal(got, b) {
			t.Errorf("Mix of Mix of % X: % X", b, got)
		}
		for which := 1; which <= 2; which++ {
			if got := layered(t, 3-which, layered(t, which, b)); !bytes.Equal(got, b) {
				t.Errorf("Layer %d of Layer %d of % X: % X", 3-which, which, b, got)
			}
		}
	}
}

func TestP1004ThereAndBack(t *testing.T) {
	d := dice.New(1008)
	for _, size := range sizes() {
		for range 200 {
			probe.ThereAndBack(t, made(t, d.Bytes(size)), d.Bytes(16))
		}
	}
}

// Each bit of a key and of a block counts, and two blocks make two (T4).
func TestP1004EachBitCounts(t *testing.T) {
	d := dice.New(1009)
	for _, size := range sizes() {
		probe.EachBitCounts(t, d.Bytes(size), d.Bytes(16), func(key []byte) probe.Cipher {
			return made(t, key)
		})
	}
}

// New and Keys change no key and keep none: what becomes of it does not count.
func TestP2P3NewAndKeysLeaveAll(t *testing.T) {
	d := dice.New(1010)
	for _, size := range sizes() {
		for range 20 {
			room, b := d.Bytes(100), d.Bytes(16)
			had := bytes.Clone(room)
			x := made(t, room[:size])
			keys, _ := aria.Keys(room[:size])
			aria.New(room[:size+1])
			aria.Keys(room[:size-1])
			if !bytes.Equal(room, had) {
				t.Fatalf("a key of %d bytes is touched", size)
			}
			dice.Spoil(room)
			there := probe.Turned(t, x, b, false)
			if !bytes.Equal(there, referenceBlock(had[:size], b)) || !bytes.Equal(probe.Turned(t, x, there, true), b) {
				t.Fatalf("New keeps a key of %d bytes", size)
			}
			if !slices.EqualFunc(keys, referenceKeys(had[:size]), bytes.Equal) {
				t.Fatalf("Keys of %d bytes shares with its key", size)
			}
		}
	}
}

// No two of the lists share any, nor with a later answer, nor with an Aria; the
// list of them is new, too.
func TestP2P3KeysShareNone(t *testing.T) {
	d := dice.New(1011)
	for _, size := range sizes() {
		key, b := d.Bytes(size), d.Bytes(16)
		want := referenceKeys(key)
		x := made(t, key)
		keys, _ := aria.Keys(key)
		for i, k := range keys {
			dice.Spoil(k)
			if i+1 < len(keys) && !bytes.Equal(keys[i+1], want[i+1]) || bytes.Equal(k, want[i]) {
				t.Fatalf("%d bytes: key %d shares", size, i+1)
			}
		}
		checkKeys(t, key)
		keys, _ = aria.Keys(key)
		for i := len(keys) - 1; i >= 0; i-- {
			if !bytes.Equal(keys[i], want[i]) {
				t.Fatalf("%d bytes: key %d shares", size, i+1)
			}
			dice.Spoil(keys[i])
		}
		clear(keys[:cap(keys)])
		checkKeys(t, key)
		if !bytes.Equal(probe.Turned(t, x, b, false), referenceBlock(key, b)) {
			t.Errorf("%d bytes: Keys shares with an Aria", size)
		}
	}
}

// What is handed to Mix and to Layer stays as it was, its spare room too, and
// shares nothing with the answer; the same call answers the same again.
func TestP2P3MixAndLayerLeaveAll(t *testing.T) {
	d := dice.New(1012)
	for name, call := range map[string]func(b []byte) ([]byte, bool){
		"Mix":     aria.Mix,
		"Layer 1": func(b []byte) ([]byte, bool) { return aria.Layer(1, b) },
		"Layer 2": func(b []byte) ([]byte, bool) { return aria.Layer(2, b) },
	} {
		for range 20 {
			room := d.Bytes(64)
			had := bytes.Clone(room)
			first, _ := call(room[:16])
			answer := bytes.Clone(first)
			call(room[16:32])
			if !bytes.Equal(first, answer) {
				t.Fatalf("%s writes over an answer of its own", name)
			}
			dice.Spoil(first)
			call(room[:15])
			call(room[:17])
			if !bytes.Equal(room, had) {
				t.Fatalf("%s touches what is handed in", name)
			}
			second, _ := call(room[:16])
			dice.Spoil(room)
			if !bytes.Equal(second, answer) {
				t.Fatalf("%s: not the same again", name)
			}
		}
	}
}

func TestP2P3BlockLeavesAll(t *testing.T) {
	d := dice.New(1013)
	for _, size := range sizes() {
		for range 3 {
			probe.LeavesAll(t, d, made(t, d.Bytes(size)), 16)
		}
	}
}

// Several, of one key or of others, side by side, do not touch one another.
func TestP7SideBySide(t *testing.T) {
	d := dice.New(1014)
	var all []probe.Known
	for _, size := range slices.Concat(sizes(), sizes()) {
		key := d.Bytes(size)
		all = append(all, probe.Known{
			Made:  func() probe.Cipher { aria.New(nil); return made(t, key) },
			There: func(b []byte) []byte { return referenceBlock(key, b) },
		})
	}
	probe.SideBySide(t, d.Bytes(16), all)
}

// One that New has not made.
func TestP1BlockOfOneThatIsNotMade(t *testing.T) {
	probe.Ends(&aria.Aria{}, 16)
}
