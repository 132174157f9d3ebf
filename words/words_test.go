package words_test

import (
	"bytes"
	"math"
	"math/big"
	"testing"

	"scrim/dice"
	"scrim/words"
)

// farTurns are the numbers of bits at the edges of an int, of a byte, a word
// and three bytes.
func farTurns() []int {
	return []int{
		0, 1, 7, 8, 9, 23, 24, 25, 31, 32, 33, 1000,
		-1, -7, -8, -9, -23, -24, -25, -31, -32, -33, -1000,
		math.MaxInt, math.MaxInt - 1, math.MinInt, math.MinInt + 1,
	}
}

// restOf is W5's rest, by numbers that cannot overflow.
func restOf(n, m int) int {
	r := new(big.Int).Mod(big.NewInt(int64(n)), big.NewInt(int64(m)))
	return int(r.Int64())
}

// bitOf is the bit of b at that place, from 0 on: the highest one of the
// first byte is the first (W1).
func bitOf(b []byte, place int) byte { return b[place/8] >> (7 - place%8) & 1 }

// turned is Turn as the promise words it, a bit at a time.
func turned(b []byte, n int) []byte {
	out := make([]byte, len(b))
	all := 8 * len(b)
	if all == 0 {
		return out
	}
	by := restOf(n, all)
	for i := range all {
		out[i/8] |= bitOf(b, (i+by)%all) << (7 - i%8)
	}
	return out
}

func TestP101Be32(t *testing.T) {
	for b, want := range map[[4]byte]uint32{
		{}:                       0,
		{0, 0, 0, 1}:             1,
		{0x80, 0, 0, 0}:          0x80000000,
		{0x12, 0x34, 0x56, 0x78}: 0x12345678,
		{0xFF, 0xFF, 0xFF, 0xFF}: math.MaxUint32,
	} {
		if got, ok := words.Be32(b[:]); !ok || got != want {
			t.Errorf("Be32 of % X: %X, %v", b, got, ok)
		}
		if got := words.PutBe32(want); !bytes.Equal(got, b[:]) {
			t.Errorf("PutBe32 of %X: % X", want, got)
		}
	}
}

func TestP101Le32(t *testing.T) {
	for b, want := range map[[4]byte]uint32{
		{}:                       0,
		{1, 0, 0, 0}:             1,
		{0, 0, 0, 0x80}:          0x80000000,
		{0x78, 0x56, 0x34, 0x12}: 0x12345678,
		{0xFF, 0xFF, 0xFF, 0xFF}: math.MaxUint32,
	} {
		if got, ok := words.Le32(b[:]); !ok || got != want {
			t.Errorf("Le32 of % X: %X, %v", b, got, ok)
		}
		if got := words.PutLe32(want); !bytes.Equal(got, b[:]) {
			t.Errorf("PutLe32 of %X: % X", want, got)
		}
	}
}

func TestP101Be64(t *testing.T) {
	for b, want := range map[[8]byte]uint64{
		{}:                       0,
		{0, 0, 0, 0, 0, 0, 0, 1}: 1,
		{0x80}:                   1 << 63,
		{0x12, 0x34, 0x56, 0x78, 0x9A, 0xBC, 0xDE, 0xF1}: 0x123456789ABCDEF1,
		{0xFF, 0xFF, 0xFF, 0xFF, 0xFF, 0xFF, 0xFF, 0xFF}: math.MaxUint64,
		{0, 0, 0, 1, 0xFF, 0xFF, 0xFF, 0xFF}:             0x1FFFFFFFF,
		{0x01, 0x02, 0x03, 0x04, 0x05, 0x06, 0x07, 0x08}: 0x0102030405060708,
		{0x7F, 0xFF, 0xFF, 0xFF, 0xFF, 0xFF, 0xFF, 0xFE}: math.MaxInt64 - 1,
		{0x00, 0x00, 0x00, 0x00, 0x80, 0x00, 0x00, 0x00}: 1 << 31,
		{0x00, 0x00, 0x00, 0x01, 0x00, 0x00, 0x00, 0x00}: 1 << 32,
		{0xFE, 0xDC, 0xBA, 0x98, 0x76, 0x54, 0x32, 0x10}: 0xFEDCBA9876543210,
	} {
		if got, ok := words.Be64(b[:]); !ok || got != want {
			t.Errorf("Be64 of % X: %X, %v", b, got, ok)
		}
		if got := words.PutBe64(want); !bytes.Equal(got, b[:]) {
			t.Errorf("PutBe64 of %X: % X", want, got)
		}
	}
}

// Of another length there is no word, and 0 stands beside the false (P4).
func TestP101WrongLengths(t *testing.T) {
	for n := range 20 {
		b := bytes.Repeat([]byte{0xA5}, n)
		if got, ok := words.Be32(b); ok != (n == 4) || !ok && got != 0 {
			t.Errorf("Be32 of %d bytes: %X, %v", n, got, ok)
		}
		if got, ok := words.Le32(b); ok != (n == 4) || !ok && got != 0 {
			t.Errorf("Le32 of %d bytes: %X, %v", n, got, ok)
		}
		if got, ok := words.Be64(b); ok != (n == 8) || !ok && got != 0 {
			t.Errorf("Be64 of %d bytes: %X, %v", n, got, ok)
		}
	}
	// Only the length counts, not the room behind it.
	wide := make([]byte, 16)
	if _, ok := words.Be32(wide[:3]); ok {
		t.Error("Be32 of 3 bytes with room for more")
	}
	if _, ok := words.Be64(wide[:8]); !ok {
		t.Error("Be64 of 8 bytes with room for more")
	}
}

func TestP101Rol32(t *testing.T) {
	for n, want := range map[int]uint32{
		0: 0x81234567, 4: 0x12345678, 8: 0x23456781, 1: 0x02468ACF, -1: 0xC091A2B3,
		-4: 0x78123456, 32: 0x81234567, -32: 0x81234567, 36: 0x12345678,
		math.MinInt: 0x81234567, math.MaxInt: 0xC091A2B3,
	} {
		if got := words.Rol32(0x81234567, n); got != want {
			t.Errorf("Rol32 by %d: %X, not %X", n, got, want)
		}
	}
	d := dice.New(32)
	for _, n := range farTurns() {
		v := uint32(d.Next())
		want := turned(words.PutBe32(v), n)
		if got := words.PutBe32(words.Rol32(v, n)); !bytes.Equal(got, want) {
			t.Errorf("Rol32 of %X by %d: % X, not % X", v, n, got, want)
		}
	}
}

func TestP101Rol8(t *testing.T) {
	for n, want := range map[int]byte{
		0: 0x81, 1: 0x03, 4: 0x18, 7: 0xC0, 8: 0x81, -1: 0xC0, -8: 0x81, 9: 0x03,
		math.MinInt: 0x81, math.MaxInt: 0xC0,
	} {
		if got := words.Rol8(0x81, n); got != want {
			t.Errorf("Rol8 by %d: %X, not %X", n, got, want)
		}
	}
	for v := range 256 {
		for _, n := range farTurns() {
			want := turned([]byte{byte(v)}, n)
			if got := words.Rol8(byte(v), n); got != want[0] {
				t.Errorf("Rol8 of %X by %d: %X, not %X", v, n, got, want[0])
			}
		}
	}
}

func TestP101Turn(t *testing.T) {
	for _, x := range []struct {
		b    []byte
		n    int
		want []byte
	}{
		{[]byte{0x80, 0, 0}, 1, []byte{0, 0, 1}},
		{[]byte{0, 0, 1}, -1, []byte{0x80, 0, 0}},
		{[]byte{0xAB, 0xCD, 0xEF}, 4, []byte{0xBC, 0xDE, 0xFA}},
		{[]byte{0xAB, 0xCD, 0xEF}, -4, []byte{0xFA, 0xBC, 0xDE}},
		{[]byte{0xAB, 0xCD, 0xEF}, 8, []byte{0xCD, 0xEF, 0xAB}},
		{[]byte{0xAB, 0xCD, 0xEF}, 24, []byte{0xAB, 0xCD, 0xEF}},
		{[]byte{0xAB, 0xCD, 0xEF}, 28, []byte{0xBC, 0xDE, 0xFA}},
		{[]byte{0x81}, 4, []byte{0x18}},
	} {
		if got := words.Turn(x.b, x.n); !bytes.Equal(got, x.want) {
			t.Errorf("Turn of % X by %d: % X, not % X", x.b, x.n, got, x.want)
		}
	}
	for _, n := range farTurns() {
		if got := words.Turn(nil, n); len(got) != 0 {
			t.Errorf("Turn of nothing by %d: % X", n, got)
		}
		if got := words.Turn([]byte{}, n); len(got) != 0 {
			t.Errorf("Turn of an empty list by %d: % X", n, got)
		}
	}
}

func TestP101TurnBitByBit(t *testing.T) {
	d := dice.New(1)
	for size := range 40 {
		b := d.Bytes(size)
		turns := append(farTurns(), 8*size-1, 8*size, 8*size+1, -8*size, int(d.Next()))
		for _, n := range turns {
			if got, want := words.Turn(b, n), turned(b, n); !bytes.Equal(got, want) {
				t.Errorf("Turn of % X by %d: % X, not % X", b, n, got, want)
			}
		}
	}
}

func TestP101TurnLong(t *testing.T) {
	b := dice.New(2).Bytes(1 << 17)
	for _, n := range []int{3, -3, math.MinInt, math.MaxInt} {
		if !bytes.Equal(words.Turn(b, n), turned(b, n)) {
			t.Errorf("Turn of many bytes by %d", n)
		}
	}
}

func TestP101Xor(t *testing.T) {
	got, ok := words.Xor([]byte{0x0F, 0xFF, 0x00, 0x55}, []byte{0x3C, 0xFF, 0x80, 0xAA})
	if !ok || !bytes.Equal(got, []byte{0x33, 0x00, 0x80, 0xFF}) {
		t.Errorf("Xor: % X, %v", got, ok)
	}
	for _, a := range [][]byte{nil, {}} {
		for _, b := range [][]byte{nil, {}} {
			if got, ok := words.Xor(a, b); !ok || len(got) != 0 {
				t.Errorf("Xor of nothing: % X, %v", got, ok)
			}
		}
	}
	d := dice.New(4)
	for n := range 10 {
		for m := range 10 {
			a, b := d.Bytes(n), d.Bytes(m)
			got, ok := words.Xor(a, b)
			if ok != (n == m) || !ok && len(got) != 0 {
				t.Fatalf("Xor of %d and %d bytes: % X, %v", n, m, got, ok)
			}
			for i := range got {
				if got[i] != a[i]^b[i] {
					t.Errorf("Xor of % X and % X: % X", a, b, got)
				}
			}
		}
	}
}

func TestP101Inc(t *testing.T) {
	for _, x := range []struct{ b, want []byte }{
		{nil, nil},
		{[]byte{}, nil},
		{[]byte{0}, []byte{1}},
		{[]byte{0xFF}, []byte{0}},
		{[]byte{0x00, 0xFF}, []byte{0x01, 0x00}}, // the chapter's example
		{[]byte{0xFF, 0x00}, []byte{0xFF, 0x01}},
		{[]byte{0xFF, 0xFE}, []byte{0xFF, 0xFF}},
		{[]byte{0x7F, 0xFF, 0xFF}, []byte{0x80, 0x00, 0x00}},
		{bytes.Repeat([]byte{0xFF}, 16), make([]byte, 16)},
		{bytes.Repeat([]byte{0xFF}, 1<<16), make([]byte, 1<<16)},
	} {
		if got := words.Inc(x.b); !bytes.Equal(got, x.want) {
			t.Errorf("Inc of %X: %X, not %X", x.b, got, x.want)
		}
	}
}

func TestP101IncCounts(t *testing.T) {
	b := make([]byte, 3)
	for n := range 1<<24 + 2 {
		if n%65521 == 0 || n&0xFFFF == 0 || n >= 1<<24 {
			want := []byte{byte(n >> 16), byte(n >> 8), byte(n)}
			if !bytes.Equal(b, want) {
				t.Fatalf("Inc, %d times: % X", n, b)
			}
		}
		b = words.Inc(b)
	}
}

// calls are those of the faces that take a list and answer one.
func calls() map[string]func(b []byte) []byte {
	return map[string]func(b []byte) []byte{
		"Turn by 0":   func(b []byte) []byte { return words.Turn(b, 0) },
		"Turn by 8":   func(b []byte) []byte { return words.Turn(b, 8) },
		"Turn by -3":  func(b []byte) []byte { return words.Turn(b, -3) },
		"Inc":         words.Inc,
		"Xor, first":  func(b []byte) []byte { out, _ := words.Xor(b, make([]byte, len(b))); return out },
		"Xor, second": func(b []byte) []byte { out, _ := words.Xor(make([]byte, len(b)), b); return out },
		"Xor, both":   func(b []byte) []byte { out, _ := words.Xor(b, b); return out },
	}
}

// What is handed in stays as it was, its spare room too, and shares nothing
// with the answer; the same call answers the same again.
func TestP2P3HandedInStays(t *testing.T) {
	for name, call := range calls() {
		for _, size := range []int{0, 1, 4, 8, 33} {
			room := dice.New(uint64(size)).Bytes(size + 9)
			was := bytes.Clone(room)
			first := call(room[:size])
			answer := bytes.Clone(first)
			dice.Spoil(first)
			if !bytes.Equal(room, was) {
				t.Errorf("%s of %d bytes touches what is handed in", name, size)
			}
			second := call(room[:size])
			if !bytes.Equal(second, answer) {
				t.Errorf("%s of %d bytes: not the same again", name, size)
			}
			dice.Spoil(room)
			if !bytes.Equal(second, answer) {
				t.Errorf("%s of %d bytes keeps what is handed in", name, size)
			}
		}
	}
}

func TestP2ReadersLeaveBytes(t *testing.T) {
	room := dice.New(8).Bytes(16)
	was := bytes.Clone(room)
	for n := range 12 {
		words.Be32(room[:n])
		words.Le32(room[:n])
		words.Be64(room[:n])
	}
	if !bytes.Equal(room, was) {
		t.Error("a reader changed what is handed in")
	}
}

// The bytes that Put tells are new each time.
func TestP2P3PutIsNew(t *testing.T) {
	for name, put := range map[string]func() []byte{
		"PutBe32": func() []byte { return words.PutBe32(0x01020304) },
		"PutLe32": func() []byte { return words.PutLe32(0x04030201) },
		"PutBe64": func() []byte { return words.PutBe64(0x0102030405060708) },
	} {
		first := put()
		want := bytes.Clone(first)
		second := put()
		dice.Spoil(first)
		if !bytes.Equal(second, want) || !bytes.Equal(put(), want) {
			t.Errorf("%s answers memory that another answer has", name)
		}
	}
}
