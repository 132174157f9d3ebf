package idea_test

import (
	"bytes"
	"math"
	"slices"
	"testing"

	"scrim/api"
	"scrim/dice"
	"scrim/idea"
	"scrim/probe"
)

// spread tells numbers as bytes, two each.
func spread(numbers ...int) []byte {
	var b []byte
	for _, n := range numbers {
		b = append(b, byte(n/256), byte(n%256))
	}
	return b
}

// gathered are the numbers of two bytes each.
func gathered(b []byte) []int {
	var numbers []int
	for i := 0; i < len(b); i += 2 {
		numbers = append(numbers, int(b[i])*256+int(b[i+1]))
	}
	return numbers
}

// atTheEdge throws n numbers that are the least, the greatest and the like.
func atTheEdge(d *dice.Dice, n int) []int {
	numbers := make([]int, n)
	for i := range numbers {
		numbers[i] = []int{0, 1, 2, 32767, 32768, 32769, 65534, 65535}[d.Below(8)]
	}
	return numbers
}

// noNumbers are outside 0 to 65535.
func noNumbers() []int {
	return []int{
		math.MinInt, math.MinInt + 1, -1 << 32, -65537, -65536, -65535, -2, -1,
		65536, 65537, 65538, 131071, 131072, 1 << 31, 1 << 32, 1<<32 + 5, math.MaxInt - 1, math.MaxInt,
	}
}

// wide is what a number stands for in a product.
func wide(n int) int {
	if n == 0 {
		return 65536
	}
	return n
}

// product is Mul by adding alone.
func product(a, b int) int {
	sum, by := 0, wide(a)
	for left := wide(b); left > 0; left /= 2 {
		if left%2 == 1 {
			sum = (sum + by) % 65537
		}
		by = (by + by) % 65537
	}
	return sum % 65536
}

// signs tells bytes as signs 0 and 1, in W1's order.
func signs(b []byte) string {
	var s []byte
	for _, x := range b {
		for mask := byte(0x80); mask > 0; mask /= 2 {
			s = append(s, "01"[min(x&mask, 1)])
		}
	}
	return string(s)
}

// scheduled is Keys as the promise words it, by signs.
func scheduled(key []byte) []int {
	row := signs(key)
	var keys []int
	for len(keys) < 52 {
		for at := 0; at < 128 && len(keys) < 52; at += 16 {
			n := 0
			for _, sign := range row[at : at+16] {
				n = 2*n + int(sign-'0')
			}
			keys = append(keys, n)
		}
		row = row[25:] + row[:25]
	}
	return keys
}

// passed is a block, there, as the promise words it.
func passed(key, b []byte) []byte {
	sum := func(a, b int) int { return (a + b) % 65536 }
	x, k := gathered(b), scheduled(key)
	for range 8 {
		a, c, d, e := product(x[0], k[0]), sum(x[1], k[1]), sum(x[2], k[2]), product(x[3], k[3])
		f := product(a^d, k[4])
		g := product(sum(c^e, f), k[5])
		f = sum(f, g)
		x, k = []int{a ^ g, d ^ g, c ^ f, e ^ f}, k[6:]
	}
	return spread(product(x[0], k[0]), sum(x[2], k[1]), sum(x[1], k[2]), product(x[3], k[3]))
}

// made is New of a key that may be.
func made(t *testing.T, key []byte) *idea.Idea {
	t.Helper()
	x, e := idea.New(key)
	if e != api.OK || x == nil {
		t.Fatalf("New of % X: %v", key, e)
	}
	return x
}

func TestP701Mul(t *testing.T) {
	for _, x := range [][3]int{
		{0, 0, 1}, // the chapter's example
		{0, 1, 0}, {1, 0, 0}, {1, 1, 1}, {0, 2, 65535}, {0, 65535, 2}, {65535, 65535, 4},
		{2, 32768, 0}, {256, 256, 0}, {4, 16384, 0}, {2, 32769, 1}, {3, 21846, 1}, {32768, 32768, 49153},
	} {
		if got := idea.Mul(x[0], x[1]); got != x[2] {
			t.Errorf("Mul of %d, %d: %d, not %d", x[0], x[1], got, x[2])
		}
	}
}

// Row by row of all products by some a: each next one is a more.
func TestP701MulRowByRow(t *testing.T) {
	d := dice.New(701)
	all := []int{0, 1, 2, 3, 255, 256, 257, 32767, 32768, 32769, 65534, 65535}
	for range 30 {
		all = append(all, d.Below(65536))
	}
	for _, a := range all {
		sum := 0
		for b := 1; b <= 65536; b++ {
			sum += wide(a)
			if sum >= 65537 {
				sum -= 65537
			}
			want := sum % 65536
			if one, other := idea.Mul(a, b%65536), idea.Mul(b%65536, a); one != want || other != want {
				t.Fatalf("Mul of %d, %d: %d, %d, not %d", a, b%65536, one, other, want)
			}
		}
	}
}

// Each number is a power of 3, and the powers i and 65536 - i are the inverses of
// each other.
func TestP701Inv(t *testing.T) {
	powers := []int{1}
	for len(powers) < 65536 {
		powers = append(powers, powers[len(powers)-1]*3%65537)
	}
	asked := map[int]int{}
	for i, a := range powers {
		want := powers[(65536-i)%65536] % 65536
		if got := idea.Inv(a % 65536); got != want || idea.Mul(a%65536, got) != 1 {
			t.Fatalf("Inv of %d: %d, not %d", a%65536, got, want)
		}
		asked[a%65536]++
	}
	if len(asked) != 65536 {
		t.Errorf("%d numbers were asked", len(asked))
	}
}

// A number out of bounds is refused, not clamped, and stands not for another one
// (P9).
func TestP701NumbersRefused(t *testing.T) {
	far := noNumbers()
	for _, a := range far {
		for _, b := range append([]int{0, 1, 2, 5, 32768, 65535}, far...) {
			if one, other := idea.Mul(a, b), idea.Mul(b, a); one != 0 || other != 0 {
				t.Errorf("Mul of %d, %d: %d, %d", a, b, one, other)
			}
		}
		if got := idea.Inv(a); got != 0 {
			t.Errorf("Inv of %d: %d", a, got)
		}
	}
}

// The keys that are told with the cipher, of 1 to 8.
func TestP701Keys(t *testing.T) {
	keys, e := idea.Keys(spread(1, 2, 3, 4, 5, 6, 7, 8))
	want := []int{
		1, 2, 3, 4, 5, 6, 7, 8, 1024, 1536, 2048, 2560,
		3072, 3584, 4096, 512, 16, 20, 24, 28, 32, 4, 8, 12,
		10240, 12288, 14336, 16384, 2048, 4096, 6144, 8192, 112, 128, 16, 32,
		48, 64, 80, 96, 0, 8192, 16384, 24576, 32768, 40960, 49152, 57345,
		128, 192, 256, 320,
	}
	if e != api.OK || !slices.Equal(keys, want) {
		t.Errorf("Keys: %v, %v", keys, e)
	}
}

// Keys of one bit each, of none, of all, and of any.
func TestP701KeysOfAny(t *testing.T) {
	d := dice.New(702)
	all := [][]byte{make([]byte, 16), bytes.Repeat([]byte{0xFF}, 16)}
	for i := range 128 {
		one := make([]byte, 16)
		one[i/8] = 0x80 >> (i % 8)
		all = append(all, one)
	}
	for range 500 {
		all = append(all, d.Bytes(16))
	}
	for _, key := range all {
		if keys, e := idea.Keys(key); e != api.OK || !slices.Equal(keys, scheduled(key)) {
			t.Fatalf("Keys of % X: %v, %v", key, keys, e)
		}
	}
}

// Lengths that may not be, also where the room behind would fill them up.
func TestP701KeysRefuses(t *testing.T) {
	room := dice.New(703).Bytes(64)
	for n := range 50 {
		keys, e := idea.Keys(room[:n])
		if n == 16 && (e != api.OK || len(keys) != 52) || n != 16 && (e != api.BadKey || len(keys) != 0) {
			t.Errorf("Keys of %d bytes: %v, %v", n, keys, e)
		}
	}
	if keys, e := idea.Keys(nil); e != api.BadKey || len(keys) != 0 {
		t.Errorf("Keys of no key: %v, %v", keys, e)
	}
}

func TestP702New(t *testing.T) {
	room := dice.New(704).Bytes(64)
	for n := range 50 {
		x, e := idea.New(room[:n])
		if n == 16 && (e != api.OK || x == nil) || n != 16 && (e != api.BadKey || x != nil) {
			t.Errorf("New of %d bytes: %v, %v", n, x, e)
		}
	}
	if x, e := idea.New(nil); e != api.BadKey || x != nil {
		t.Errorf("New of no key: %v, %v", x, e)
	}
}

// Examples that others have told, from memory.
func TestP702Block(t *testing.T) {
	for _, x := range []struct{ key, b, want []byte }{
		{spread(1, 2, 3, 4, 5, 6, 7, 8), spread(0, 1, 2, 3), spread(0x11FB, 0xED2B, 0x0198, 0x6DE5)},
		{spread(0x8000, 0, 0, 0, 0, 0, 0, 0), spread(0, 0, 0, 0), spread(0xB1F5, 0xF7F8, 0x7901, 0x370F)},
		{
			spread(0x2BD6, 0x459F, 0x82C5, 0xB300, 0x952C, 0x4910, 0x4881, 0xFF48),
			spread(0xF129, 0xA660, 0x1EF6, 0x2A47),
			spread(0xEA02, 0x4714, 0xAD5C, 0x4D84),
		},
	} {
		d := made(t, x.key)
		if got := probe.Turned(t, d, x.b, false); !bytes.Equal(got, x.want) {
			t.Errorf("Block of % X by % X: % X, not % X", x.b, x.key, got, x.want)
		}
		if got := probe.Turned(t, d, x.want, true); !bytes.Equal(got, x.b) {
			t.Errorf("Block of % X by % X, back: % X, not % X", x.want, x.key, got, x.b)
		}
	}
}

// check holds a block against the reference, there and back: of what is answered
// back, the reference makes the block.
func check(t *testing.T, key, b []byte) {
	t.Helper()
	x := made(t, key)
	if got, want := probe.Turned(t, x, b, false), passed(key, b); !bytes.Equal(got, want) {
		t.Fatalf("Block of % X by % X: % X, not % X", b, key, got, want)
	}
	if got := probe.Turned(t, x, b, true); !bytes.Equal(passed(key, got), b) {
		t.Fatalf("Block of % X by % X, back: % X", b, key, got)
	}
}

func TestP702BlockOfAny(t *testing.T) {
	d := dice.New(705)
	for range 1500 {
		check(t, d.Bytes(16), d.Bytes(8))
	}
}

// Keys and blocks of noughts, which stand for 65536, of greatest numbers and of
// their neighbours; keys that are one and the same number, through and through.
func TestP702BlockAtTheEdges(t *testing.T) {
	d := dice.New(706)
	for range 1500 {
		check(t, spread(atTheEdge(d, 8)...), spread(atTheEdge(d, 4)...))
	}
	for _, k := range []byte{0x00, 0xFF} {
		for _, b := range []byte{0x00, 0x01, 0x80, 0xFF} {
			check(t, bytes.Repeat([]byte{k}, 16), bytes.Repeat([]byte{b}, 8))
		}
	}
}

func TestP702BlockRefuses(t *testing.T) {
	d := dice.New(707)
	probe.Refuses(t, d, made(t, d.Bytes(16)), 8)
}

func TestP703ThereAndBack(t *testing.T) {
	d := dice.New(708)
	for range 2000 {
		probe.ThereAndBack(t, made(t, d.Bytes(16)), d.Bytes(8))
	}
}

// Each bit of a key and of a block counts, and two blocks make two (T4).
func TestP703EachBitCounts(t *testing.T) {
	d := dice.New(709)
	probe.EachBitCounts(t, d.Bytes(16), d.Bytes(8), func(key []byte) probe.Cipher { return made(t, key) })
}

// What is handed in stays as it was, its spare room too, and shares nothing with
// the answer; the same call answers the same again.
func TestP2P3KeysLeavesAll(t *testing.T) {
	d := dice.New(710)
	for range 50 {
		room := d.Bytes(40)
		had := bytes.Clone(room)
		first, _ := idea.Keys(room[:16])
		dice.Spoil(first)
		idea.Keys(room[:17])
		if !bytes.Equal(room, had) {
			t.Fatal("Keys touches what is handed in")
		}
		second, _ := idea.Keys(room[:16])
		dice.Spoil(room)
		if !slices.Equal(second, scheduled(had[:16])) {
			t.Fatal("Keys: not the same again")
		}
	}
}

// New keeps no key: what becomes of it, and of what Keys makes of it, does not
// count.
func TestP2P3NewLeavesAll(t *testing.T) {
	d := dice.New(711)
	for range 50 {
		room, b := d.Bytes(40), d.Bytes(8)
		had := bytes.Clone(room)
		x := made(t, room[:16])
		idea.New(room[:17])
		if !bytes.Equal(room, had) {
			t.Fatal("New touches what is handed in")
		}
		keys, _ := idea.Keys(room[:16])
		dice.Spoil(keys)
		dice.Spoil(room)
		there := probe.Turned(t, x, b, false)
		if !bytes.Equal(there, passed(had[:16], b)) || !bytes.Equal(probe.Turned(t, x, there, true), b) {
			t.Fatal("New keeps a key")
		}
	}
}

func TestP2P3BlockLeavesAll(t *testing.T) {
	d := dice.New(712)
	for range 3 {
		probe.LeavesAll(t, d, made(t, d.Bytes(16)), 8)
	}
}

func TestP3NumbersAnswerTheSame(t *testing.T) {
	ask := func(seed uint64) (all [300]int) {
		d := dice.New(seed)
		for i := range 150 {
			all[2*i] = idea.Mul(d.Below(65536), d.Below(65536))
			all[2*i+1] = idea.Inv(d.Below(65536))
		}
		return all
	}
	first := ask(3)
	ask(4)
	if ask(3) != first {
		t.Error("not the same again")
	}
}

// Several, of one key or of others, side by side, do not touch one another.
func TestP7SideBySide(t *testing.T) {
	d := dice.New(713)
	var all []probe.Known
	for range 3 {
		key := d.Bytes(16)
		all = append(all, probe.Known{
			Made:  func() probe.Cipher { idea.New(nil); return made(t, key) },
			There: func(b []byte) []byte { return passed(key, b) },
		})
	}
	probe.SideBySide(t, d.Bytes(8), all)
}

// One that New has not made.
func TestP1BlockOfOneThatIsNotMade(t *testing.T) {
	probe.Ends(&idea.Idea{}, 8)
}
