package des_test

import (
	"bytes"
	"crypto/cipher"
	stddes "crypto/des"
	"encoding/hex"
	"slices"
	"strconv"
	"strings"
	"testing"

	"scrim/api"
	"scrim/des"
	"scrim/dice"
	"scrim/probe"
)

// hexed is told pairs of signs.
func hexed(s string) []byte {
	b, err := hex.DecodeString(s)
	if err != nil {
		panic(err)
	}
	return b
}

// signs tells bytes as signs 0 and 1, in W1's order.
func signs(b []byte) string {
	var s strings.Builder
	for _, x := range b {
		for mask := 0x80; mask > 0; mask >>= 1 {
			s.WriteByte("01"[min(int(x)&mask, 1)])
		}
	}
	return s.String()
}

// byTable are the signs of row by that table.
func byTable(row string, table []int) string {
	var s strings.Builder
	for _, i := range table {
		s.WriteByte(row[i-1])
	}
	return s.String()
}

// xored holds signs against each other, one by one.
func xored(a, b string) string {
	out := []byte(a)
	for i := range out {
		out[i] = "01"[(a[i]^b[i])&1]
	}
	return string(out)
}

// rowsOfS are the chapter's, as it has them.
var rowsOfS = [8][4]string{
	{"E4D12FB83A6C5907", "0F74E2D1A6CB9538", "41E8D62BFC973A50", "FC8249175B3EA06D"},
	{"F18E6B34972DC05A", "3D47F28EC01A69B5", "0E7BA4D158C6932F", "D8A13F42B67C05E9"},
	{"A09E63F51DC7B428", "D709346A285ECBF1", "D6498F30B12C5AE7", "1AD069874FE3B52C"},
	{"7DE3069A1285BC4F", "D8B56F03472C1AE9", "A690CB7DF13E5284", "3F06A1D8945BC72E"},
	{"2C417AB6853FD0E9", "EB2C47D150FA3986", "421BAD78F9C5630E", "B8C71E2D6F09A453"},
	{"C1AF92680D34E75B", "AF427C9561DE0B38", "9EF528C3704A1DB6", "432C95FABE17608D"},
	{"4B2EF08D3C975A61", "D0B7491AE35C2F86", "14BDC37EAF680592", "6BD814A7950FE23C"},
	{"D2846FB1A93E50C7", "1FD8A374C56B0E92", "7B419CE206ADF358", "21E74A8DFC90356B"},
}

// Written out, where the program makes them by rules.
var (
	tableE = []int{
		32, 1, 2, 3, 4, 5, 4, 5, 6, 7, 8, 9, 8, 9, 10, 11, 12, 13, 12, 13, 14, 15, 16, 17,
		16, 17, 18, 19, 20, 21, 20, 21, 22, 23, 24, 25, 24, 25, 26, 27, 28, 29, 28, 29, 30, 31, 32, 1,
	}
	tableP = []int{
		16, 7, 20, 21, 29, 12, 28, 17, 1, 15, 23, 26, 5, 18, 31, 10,
		2, 8, 24, 14, 32, 27, 3, 9, 19, 13, 30, 6, 22, 11, 4, 25,
	}
	tableC1 = []int{
		57, 49, 41, 33, 25, 17, 9, 1, 58, 50, 42, 34, 26, 18, 10, 2, 59, 51, 43, 35, 27, 19, 11, 3, 60, 52, 44, 36,
		63, 55, 47, 39, 31, 23, 15, 7, 62, 54, 46, 38, 30, 22, 14, 6, 61, 53, 45, 37, 29, 21, 13, 5, 28, 20, 12, 4,
	}
	tableC2 = []int{
		14, 17, 11, 24, 1, 5, 3, 28, 15, 6, 21, 10, 23, 19, 12, 4, 26, 8, 16, 7, 27, 20, 13, 2,
		41, 52, 31, 37, 47, 55, 30, 40, 51, 45, 33, 48, 44, 49, 39, 56, 34, 53, 46, 42, 50, 36, 29, 32,
	}
	keyTurns = []int{1, 1, 2, 2, 2, 2, 2, 2, 1, 2, 2, 2, 2, 2, 2, 1}
)

// mixed is F as the promise words it, by signs.
func mixed(r, k []byte) string {
	sum, fours := xored(byTable(signs(r), tableE), signs(k)), ""
	for box := range 8 {
		six := sum[6*box : 6*box+6]
		row, _ := strconv.ParseInt(six[:1]+six[5:], 2, 0)
		place, _ := strconv.ParseInt(six[1:5], 2, 0)
		four, _ := strconv.ParseInt(rowsOfS[box][row][place:place+1], 16, 0)
		fours += signs([]byte{byte(four)})[4:]
	}
	return byTable(fours, tableP)
}

// scheduled is Keys as the promise words it, by signs.
func scheduled(key []byte) []string {
	halves := byTable(signs(key), tableC1)
	c, d := halves[:28], halves[28:]
	var keys []string
	for _, n := range keyTurns {
		c, d = c[n:]+c[:n], d[n:]+d[:n]
		keys = append(keys, byTable(c+d, tableC2))
	}
	return keys
}

// library is the language's own DES, or three of it.
func library(t *testing.T, key []byte) cipher.Block {
	t.Helper()
	maker := stddes.NewTripleDESCipher
	switch len(key) {
	case 8:
		maker = stddes.NewCipher
	case 16:
		key = slices.Concat(key, key[:8])
	}
	c, err := maker(key)
	if err != nil {
		t.Fatal(err)
	}
	return c
}

// made is New of a key that may be.
func made(t *testing.T, key []byte) *des.Des {
	t.Helper()
	d, e := des.New(key)
	if e != api.OK || d == nil {
		t.Fatalf("New of % X: %v", key, e)
	}
	return d
}

func TestP601F(t *testing.T) {
	for _, x := range []struct{ r, k, want string }{
		{"F0AAF0AA", "1B02EFFC7072", "234AA9BB"}, // an example that is told of often
		{"00000000", "000000000000", "D8D8DBBC"},
		{"FFFFFFFF", "FFFFFFFFFFFF", "D8D8DBBC"}, // turned about by itself, it is the same
	} {
		got, ok := des.F(hexed(x.r), hexed(x.k))
		if !ok || !bytes.Equal(got, hexed(x.want)) {
			t.Errorf("F of %s, %s: % X, %v, not %s", x.r, x.k, got, ok, x.want)
		}
	}
}

// Of each box each of its sixes, by the key; and each bit of r on its own.
func TestP601FOfAllSixes(t *testing.T) {
	r := make([]byte, 4)
	for box := range 8 {
		for six := range 64 {
			all := uint64(six) << (42 - 6*box)
			var k []byte
			for at := 40; at >= 0; at -= 8 {
				k = append(k, byte(all>>at))
			}
			if got, ok := des.F(r, k); !ok || signs(got) != mixed(r, k) {
				t.Fatalf("F of % X, % X: % X, %v", r, k, got, ok)
			}
		}
	}
	for i := range 32 {
		one, k := make([]byte, 4), make([]byte, 6)
		one[i/8] = 0x80 >> (i % 8)
		if got, ok := des.F(one, k); !ok || signs(got) != mixed(one, k) {
			t.Fatalf("F of % X: % X, %v", one, got, ok)
		}
	}
}

func TestP601FOfAny(t *testing.T) {
	d := dice.New(601)
	for range 3000 {
		r, k := d.Bytes(4), d.Bytes(6)
		got, ok := des.F(r, k)
		if !ok || len(got) != 4 || signs(got) != mixed(r, k) {
			t.Fatalf("F of % X, % X: % X, %v", r, k, got, ok)
		}
	}
}

// Lengths that may not be, also where the room behind would fill them up.
func TestP601FRefuses(t *testing.T) {
	room := dice.New(602).Bytes(20)
	for r := range 12 {
		for k := range 12 {
			got, ok := des.F(room[:r], room[:k])
			if ok != (r == 4 && k == 6) || !ok && len(got) != 0 {
				t.Errorf("F of %d, %d bytes: % X, %v", r, k, got, ok)
			}
		}
	}
	for _, x := range [][2][]byte{{nil, nil}, {nil, room[:6]}, {room[:4], nil}, {room[:6], room[:4]}, {room, room}} {
		if got, ok := des.F(x[0], x[1]); ok || len(got) != 0 {
			t.Errorf("F of %d, %d bytes: % X, %v", len(x[0]), len(x[1]), got, ok)
		}
	}
}

func TestP601Keys(t *testing.T) {
	keys, e := des.Keys(hexed("133457799BBCDFF1"))
	if e != api.OK || len(keys) != 16 {
		t.Fatalf("Keys: %d, %v", len(keys), e)
	}
	for i, want := range []string{
		"1B02EFFC7072", "79AED9DBC9E5", "55FC8A42CF99", "72ADD6DB351D",
		"7CEC07EB53A8", "63A53E507B2F", "EC84B7F618BC", "F78A3AC13BFB",
		"E0DBEBEDE781", "B1F347BA464F", "215FD3DED386", "7571F59467E9",
		"97C5D1FABA41", "5F43B7F2E73A", "BF918D3D3F0A", "CB3D8B0E17F5",
	} {
		if !bytes.Equal(keys[i], hexed(want)) {
			t.Errorf("key %d: % X, not %s", i+1, keys[i], want)
		}
	}
}

// Keys of one bit each, of none, of all, and of any.
func TestP601KeysOfAny(t *testing.T) {
	d := dice.New(603)
	all := [][]byte{make([]byte, 8), bytes.Repeat([]byte{0xFF}, 8)}
	for i := range 64 {
		one := make([]byte, 8)
		one[i/8] = 0x80 >> (i % 8)
		all = append(all, one)
	}
	for range 500 {
		all = append(all, d.Bytes(8))
	}
	for _, key := range all {
		keys, e := des.Keys(key)
		if e != api.OK || len(keys) != 16 {
			t.Fatalf("Keys of % X: %d, %v", key, len(keys), e)
		}
		for i, want := range scheduled(key) {
			if len(keys[i]) != 6 || signs(keys[i]) != want {
				t.Fatalf("key %d of % X: % X, not %s", i+1, key, keys[i], want)
			}
		}
	}
}

func TestP601KeysRefuses(t *testing.T) {
	room := dice.New(604).Bytes(64)
	for n := range 50 {
		keys, e := des.Keys(room[:n])
		if n == 8 && (e != api.OK || len(keys) != 16) || n != 8 && (e != api.BadKey || len(keys) != 0) {
			t.Errorf("Keys of %d bytes: % X, %v", n, keys, e)
		}
	}
	if keys, e := des.Keys(nil); e != api.BadKey || len(keys) != 0 {
		t.Errorf("Keys of no key: % X, %v", keys, e)
	}
}

func TestP602New(t *testing.T) {
	room := dice.New(605).Bytes(100)
	for n := range 80 {
		d, e := des.New(room[:n])
		may := n == 8 || n == 16 || n == 24
		if may && (e != api.OK || d == nil) || !may && (e != api.BadKey || d != nil) {
			t.Errorf("New of %d bytes: %v, %v", n, d, e)
		}
	}
	if d, e := des.New(nil); e != api.BadKey || d != nil { // the chapter's example
		t.Errorf("New of no key: %v, %v", d, e)
	}
}

// Examples that others have told, from memory.
func TestP602Block(t *testing.T) {
	for _, x := range []struct{ key, b, want string }{
		{"133457799BBCDFF1", "0123456789ABCDEF", "85E813540F0AB405"},
		{"0101010101010101", "8000000000000000", "95F8A5E5DD31D900"},
		{"8001010101010101", "0000000000000000", "95A8D72813DAA94D"},
		{"0000000000000000", "0000000000000000", "8CA64DE9C1B123A7"},
		{"0123456789ABCDEF23456789ABCDEF01456789ABCDEF0123", "5468652071756663", "A826FD8CE53B855F"},
	} {
		d := made(t, hexed(x.key))
		if got := probe.Turned(t, d, hexed(x.b), false); !bytes.Equal(got, hexed(x.want)) {
			t.Errorf("Block of %s by %s: % X, not %s", x.b, x.key, got, x.want)
		}
		if got := probe.Turned(t, d, hexed(x.want), true); !bytes.Equal(got, hexed(x.b)) {
			t.Errorf("Block of %s by %s, back: % X, not %s", x.want, x.key, got, x.b)
		}
	}
}

// Any block by any key, there and back, against the library's.
func TestP602BlockOfAny(t *testing.T) {
	d := dice.New(606)
	for round := range 900 {
		key, b := d.Bytes(8+8*(round%3)), d.Bytes(8)
		x, c, want := made(t, key), library(t, key), make([]byte, 8)
		c.Encrypt(want, b)
		if got := probe.Turned(t, x, b, false); !bytes.Equal(got, want) {
			t.Fatalf("Block of % X by % X: % X, not % X", b, key, got, want)
		}
		c.Decrypt(want, b)
		if got := probe.Turned(t, x, b, true); !bytes.Equal(got, want) {
			t.Fatalf("Block of % X by % X, back: % X, not % X", b, key, got, want)
		}
	}
}

// Three are one by one: there, back, there; back, there, back from the third on.
func TestP602OneByOne(t *testing.T) {
	d := dice.New(607)
	for range 60 {
		key, b := d.Bytes(24), d.Bytes(8)
		one, two, three := made(t, key[:8]), made(t, key[8:16]), made(t, key[16:])
		there := probe.Turned(t, three, probe.Turned(t, two, probe.Turned(t, one, b, false), true), false)
		back := probe.Turned(t, one, probe.Turned(t, two, probe.Turned(t, three, b, true), false), true)
		all := made(t, key)
		if got := probe.Turned(t, all, b, false); !bytes.Equal(got, there) {
			t.Fatalf("% X by % X: % X, not % X", b, key, got, there)
		}
		if got := probe.Turned(t, all, b, true); !bytes.Equal(got, back) {
			t.Fatalf("% X by % X, back: % X, not % X", b, key, got, back)
		}
		short, long := made(t, key[:16]), made(t, slices.Concat(key[:16], key[:8]))
		for _, way := range []bool{false, true} {
			if !bytes.Equal(probe.Turned(t, short, b, way), probe.Turned(t, long, b, way)) {
				t.Fatalf("% X by % X: the third is not the first", b, key[:16])
			}
		}
	}
}

func TestP602BlockRefuses(t *testing.T) {
	d := dice.New(608)
	for _, size := range []int{8, 16, 24} {
		probe.Refuses(t, d, made(t, d.Bytes(size)), 8)
	}
}

func TestP603ThereAndBack(t *testing.T) {
	d := dice.New(609)
	for round := range 300 {
		probe.ThereAndBack(t, made(t, d.Bytes(8+8*(round%3))), d.Bytes(8))
	}
}

// Bits 8, 16 .. of a key do not count, each other one does.
func TestP603KeyBits(t *testing.T) {
	d := dice.New(610)
	for _, size := range []int{8, 16, 24} {
		key, b := d.Bytes(size), d.Bytes(8)
		want := probe.Turned(t, made(t, key), b, false)
		for i := range 8 * size {
			key[i/8] ^= 0x80 >> (i % 8)
			got := probe.Turned(t, made(t, key), b, false)
			key[i/8] ^= 0x80 >> (i % 8)
			if bytes.Equal(got, want) != (i%8 == 7) {
				t.Errorf("bit %d of a key of %d bytes", i+1, size)
			}
		}
	}
}

// Each bit of a block counts, for some half of the answer's bits (T4).
func TestP603BlockBits(t *testing.T) {
	d := dice.New(611)
	x, b := made(t, d.Bytes(8)), d.Bytes(8)
	was := probe.Turned(t, x, b, false)
	for i := range 64 {
		b[i/8] ^= 0x80 >> (i % 8)
		got := probe.Turned(t, x, b, false)
		b[i/8] ^= 0x80 >> (i % 8)
		if !probe.FarApart(got, was) {
			t.Errorf("bit %d: % X, and ahead of that % X", i+1, got, was)
		}
	}
}

// What is handed in stays as it was, its spare room too, and shares nothing
// with the answer; the same call answers the same again.
func TestP2P3FLeavesAll(t *testing.T) {
	d := dice.New(612)
	for range 30 {
		r, k := d.Bytes(20), d.Bytes(20)
		hadR, hadK := bytes.Clone(r), bytes.Clone(k)
		first, _ := des.F(r[:4], k[:6])
		answer := bytes.Clone(first)
		dice.Spoil(first)
		des.F(r[:5], k[:6])
		if !bytes.Equal(r, hadR) || !bytes.Equal(k, hadK) {
			t.Fatal("F touches what is handed in")
		}
		second, _ := des.F(r[:4], k[:6])
		dice.Spoil(r)
		dice.Spoil(k)
		if !bytes.Equal(second, answer) {
			t.Fatal("F: not the same again")
		}
	}
}

func TestP2P3KeysLeavesAll(t *testing.T) {
	d := dice.New(613)
	for range 30 {
		room := d.Bytes(30)
		had := bytes.Clone(room)
		keys, _ := des.Keys(room[:8])
		for i, want := range scheduled(room[:8]) {
			if signs(keys[i]) != want {
				t.Fatalf("key %d shares what another one has", i+1)
			}
			dice.Spoil(keys[i])
		}
		des.Keys(room[:9])
		if !bytes.Equal(room, had) {
			t.Fatal("Keys touches what is handed in")
		}
		again, _ := des.Keys(room[:8])
		dice.Spoil(room)
		for i, want := range scheduled(had[:8]) {
			if signs(again[i]) != want {
				t.Fatalf("key %d: not the same again", i+1)
			}
		}
	}
}

// New keeps no key: what becomes of it, and of what Keys makes of it, does not
// count; nor does it write behind a key of 16 bytes, of which it needs 24.
func TestP2P3NewLeavesAll(t *testing.T) {
	d := dice.New(614)
	for round := range 60 {
		size := 8 + 8*(round%3)
		room, b := d.Bytes(60), d.Bytes(8)
		had := bytes.Clone(room)
		x := made(t, room[:size])
		if !bytes.Equal(room, had) {
			t.Fatalf("New of %d bytes touches what is handed in", size)
		}
		keys, _ := des.Keys(room[:8])
		for _, k := range keys {
			dice.Spoil(k)
		}
		dice.Spoil(room)
		want := make([]byte, 8)
		library(t, had[:size]).Encrypt(want, b)
		if !bytes.Equal(probe.Turned(t, x, b, false), want) {
			t.Fatalf("New keeps a key of %d bytes", size)
		}
	}
}

func TestP2P3BlockLeavesAll(t *testing.T) {
	d := dice.New(615)
	for _, size := range []int{8, 16, 24} {
		probe.LeavesAll(t, d, made(t, d.Bytes(size)), 8)
	}
}

// Several, of one key or of others, side by side, do not touch one another.
func TestP7SideBySide(t *testing.T) {
	d := dice.New(616)
	var all []probe.Known
	for _, size := range []int{8, 16, 24, 8, 16, 24} {
		key := d.Bytes(size)
		all = append(all, probe.Known{
			Made: func() probe.Cipher { des.New(nil); return made(t, key) },
			There: func(b []byte) []byte {
				out := make([]byte, len(b))
				library(t, key).Encrypt(out, b)
				return out
			},
		})
	}
	probe.SideBySide(t, d.Bytes(8), all)
}

// One that New has not made.
func TestP1BlockOfOneThatIsNotMade(t *testing.T) {
	probe.Ends(&des.Des{}, 8)
}
