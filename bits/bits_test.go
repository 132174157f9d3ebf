package bits_test

import (
	"bytes"
	"math"
	"slices"
	"strings"
	"testing"

	"scrim/bits"
	"scrim/dice"
)

// signs tells bytes as signs 0 and 1, in W1's order.
func signs(b []byte) string {
	var s strings.Builder
	for _, x := range b {
		for mask := 0x80; mask > 0; mask >>= 1 {
			if int(x)&mask != 0 {
				s.WriteByte('1')
			} else {
				s.WriteByte('0')
			}
		}
	}
	return s.String()
}

// outside are numbers that are none of n bits'.
func outside(n int) []int {
	return []int{0, -1, -7, -8, -9, n + 1, n + 8, math.MinInt, math.MinInt + 1, math.MaxInt, math.MaxInt - 6}
}

func TestP201Bit(t *testing.T) {
	b := []byte{0x80, 0x01, 0x5A, 0xFF, 0x00}
	row := signs(b)
	for i := range len(row) {
		if got := bits.Bit(b, i+1); got != int(row[i]-'0') {
			t.Errorf("Bit %d of % X: %d", i+1, b, got)
		}
	}
	if bits.Bit([]byte{0x80}, 1) != 1 || bits.Bit([]byte{0x80}, 8) != 0 || bits.Bit([]byte{0x01}, 8) != 1 {
		t.Error("Bit: the highest one of the first byte is the first")
	}
}

func TestP201BitThatIsNone(t *testing.T) {
	for size := range 4 {
		// All of them set, behind the end too, so that a bit beside them shows.
		room := bytes.Repeat([]byte{0xFF}, size+3)
		for _, i := range outside(8 * size) {
			if got := bits.Bit(room[:size], i); got != 0 {
				t.Errorf("Bit %d of %d bytes: %d", i, size, got)
			}
		}
	}
	if bits.Bit(nil, 1) != 0 || bits.Bit([]byte{}, 1) != 0 {
		t.Error("Bit of nothing")
	}
}

func TestP201Permute(t *testing.T) {
	for _, x := range []struct {
		b     []byte
		table []int
		want  []byte
	}{
		{[]byte{0x80}, []int{8, 7, 6, 5, 4, 3, 2, 1}, []byte{0x01}}, // the chapter's example
		{[]byte{0x80}, []int{1}, []byte{0x80}},
		{[]byte{0x01}, []int{8}, []byte{0x80}},
		{[]byte{0xFF}, []int{1, 1, 1, 1, 1, 1, 1}, []byte{0xFE}},
		{[]byte{0xFF}, []int{8, 8, 8, 8, 8, 8, 8, 8, 8}, []byte{0xFF, 0x80}},
		{[]byte{0x12, 0x34}, []int{9, 10, 11, 12, 13, 14, 15, 16, 1, 2, 3, 4, 5, 6, 7, 8}, []byte{0x34, 0x12}},
		{[]byte{0x12, 0x34, 0x56}, []int{21, 22, 23, 24}, []byte{0x60}},
		{[]byte{0x12, 0x34, 0x56}, nil, nil},
		{[]byte{0x12}, []int{}, nil},
		{nil, nil, nil},
	} {
		if got, ok := bits.Permute(x.b, x.table); !ok || !bytes.Equal(got, x.want) {
			t.Errorf("Permute of % X by %v: % X, %v, not % X", x.b, x.table, got, ok, x.want)
		}
	}
}

// Any table, shorter or longer than the bits, a number more than once too.
func TestP201PermuteBitByBit(t *testing.T) {
	d := dice.New(201)
	for round := range 2000 {
		b := d.Bytes(1 + d.Below(9))
		table := make([]int, round%75)
		for k := range table {
			table[k] = 1 + d.Below(8*len(b))
		}
		row, want := signs(b), ""
		for _, i := range table {
			want += row[i-1 : i]
		}
		for len(want)%8 != 0 {
			want += "0"
		}
		got, ok := bits.Permute(b, table)
		if !ok || signs(got) != want {
			t.Fatalf("Permute of % X by %v: %s, %v, not %s", b, table, signs(got), ok, want)
		}
	}
}

// One number that is none of the bits, wherever it stands, spoils the table;
// nothing stands beside the false (P4).
func TestP201PermuteRefuses(t *testing.T) {
	d := dice.New(202)
	for size := range 4 {
		room := bytes.Repeat([]byte{0xFF}, size+3)
		for _, bad := range outside(8 * size) {
			if got, ok := bits.Permute(room[:size], []int{bad}); ok || len(got) != 0 {
				t.Errorf("Permute of %d bytes by %d: % X, %v", size, bad, got, ok)
			}
			for at := range 8 * size {
				table := d.Shuffled(8 * size)
				table[at] = bad
				if got, ok := bits.Permute(room[:size], table); ok || len(got) != 0 {
					t.Errorf("Permute of %d bytes by %v: % X, %v", size, table, got, ok)
				}
			}
		}
	}
}

// What is behind a table's end is none of its numbers.
func TestP201RoomBehindTheTable(t *testing.T) {
	room := []int{1, 2, 3, 1, 1, 1, 1, 1, 99}
	if got, ok := bits.Permute([]byte{0xFF}, room[:3]); !ok || !bytes.Equal(got, []byte{0xE0}) {
		t.Errorf("Permute: % X, %v", got, ok)
	}
	if got, ok := bits.Invert(room[:3]); !ok || !slices.Equal(got, []int{1, 2, 3}) {
		t.Errorf("Invert: %v, %v", got, ok)
	}
}

func TestP201Invert(t *testing.T) {
	for _, x := range []struct{ table, want []int }{
		{nil, nil},
		{[]int{}, nil},
		{[]int{1}, []int{1}},
		{[]int{2, 1}, []int{2, 1}},
		{[]int{2, 3, 1}, []int{3, 1, 2}},
		{[]int{4, 1, 3, 2}, []int{2, 4, 3, 1}},
	} {
		if got, ok := bits.Invert(x.table); !ok || !slices.Equal(got, x.want) {
			t.Errorf("Invert of %v: %v, %v, not %v", x.table, got, ok, x.want)
		}
	}
	d := dice.New(203)
	for n := range 300 {
		table := d.Shuffled(n)
		back, ok := bits.Invert(table)
		if !ok || len(back) != n {
			t.Fatalf("Invert of %v: %v, %v", table, back, ok)
		}
		for k, i := range table {
			if back[i-1] != k+1 {
				t.Fatalf("Invert of %v: %v", table, back)
			}
		}
	}
}

func TestP201InvertRefuses(t *testing.T) {
	for _, table := range [][]int{
		{0}, {2}, {-1}, {math.MinInt}, {math.MaxInt},
		{1, 1}, {2, 2}, {0, 1}, {1, 3}, {2, 2, 1}, {1, 2, 2}, {3, 1, 1}, {1, 2, 4}, {0, 1, 2}, {1, 2, -3},
	} {
		if got, ok := bits.Invert(table); ok || len(got) != 0 {
			t.Errorf("Invert of %v: %v, %v", table, got, ok)
		}
	}
	d := dice.New(204)
	for n := 1; n < 40; n++ {
		for at := range n {
			table := d.Shuffled(n)
			had := table[at]
			for _, bad := range append(outside(n), table[(at+1)%n]) {
				table[at] = bad
				if got, ok := bits.Invert(table); bad != had && (ok || len(got) != 0) {
					t.Errorf("Invert of %v: %v, %v", table, got, ok)
				}
			}
		}
	}
}

func TestP202ThereAndBack(t *testing.T) {
	d := dice.New(205)
	for size := range 40 {
		b := d.Bytes(size)
		table := d.Shuffled(8 * size)
		undo, ok := bits.Invert(table)
		there, did := bits.Permute(b, table)
		back, undid := bits.Permute(there, undo)
		if !ok || !did || !undid || !bytes.Equal(back, b) {
			t.Errorf("% X turned by %v and back: % X", b, table, back)
		}
		again, ok := bits.Invert(undo)
		if !ok || !slices.Equal(again, table) {
			t.Errorf("Invert of Invert of %v: %v", table, again)
		}
	}
}

func TestP201Long(t *testing.T) {
	d := dice.New(206)
	b := d.Bytes(1 << 14)
	table := d.Shuffled(8 * len(b))
	undo, ok := bits.Invert(table)
	there, did := bits.Permute(b, table)
	back, undid := bits.Permute(there, undo)
	if !ok || !did || !undid || bytes.Equal(there, b) || !bytes.Equal(back, b) {
		t.Error("many bits, turned and back")
	}
}

// What is handed in stays as it was, its spare room too, and shares nothing
// with the answer; the same call answers the same again.
func TestP2P3PermuteLeavesAll(t *testing.T) {
	d := dice.New(207)
	for n := range 33 {
		room, numbers := d.Bytes(9), append(d.Shuffled(32), 7, 7, 7)
		b, table := room[:4], numbers[:n]
		was, had := bytes.Clone(room), slices.Clone(numbers)
		first, _ := bits.Permute(b, table)
		answer := bytes.Clone(first)
		dice.Spoil(first)
		if !bytes.Equal(room, was) || !slices.Equal(numbers, had) {
			t.Errorf("Permute by %d numbers touches what is handed in", n)
		}
		second, _ := bits.Permute(b, table)
		dice.Spoil(room)
		dice.Spoil(numbers)
		if !bytes.Equal(second, answer) {
			t.Errorf("Permute by %d numbers: not the same again", n)
		}
	}
}

func TestP2P3InvertLeavesAll(t *testing.T) {
	d := dice.New(208)
	for n := range 33 {
		numbers := append(d.Shuffled(n), 7, 7, 7)
		had := slices.Clone(numbers)
		first, _ := bits.Invert(numbers[:n])
		answer := slices.Clone(first)
		dice.Spoil(first)
		if !slices.Equal(numbers, had) {
			t.Errorf("Invert of %d numbers touches what is handed in", n)
		}
		second, _ := bits.Invert(numbers[:n])
		dice.Spoil(numbers)
		if !slices.Equal(second, answer) {
			t.Errorf("Invert of %d numbers: not the same again", n)
		}
	}
}

func TestP2RefusalsLeaveAll(t *testing.T) {
	room, numbers := []byte{1, 2, 3, 4}, []int{2, 1, 9, 1, 5}
	bits.Bit(room[:1], 9)
	bits.Permute(room[:1], numbers[:3])
	bits.Invert(numbers[:3])
	bits.Invert(numbers[:4])
	if !bytes.Equal(room, []byte{1, 2, 3, 4}) || !slices.Equal(numbers, []int{2, 1, 9, 1, 5}) {
		t.Error("a refusal touches what is handed in")
	}
}
