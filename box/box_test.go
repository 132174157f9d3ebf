package box_test

import (
	"bytes"
	"math"
	"slices"
	"testing"

	"scrim/box"
	"scrim/dice"
	"scrim/field"
)

// same are the rows that change nothing.
func same() [8]byte { return [8]byte{1, 2, 4, 8, 16, 32, 64, 128} }

// shuffled is a table that has each of 0 to n less 1 once; n is 256 at most.
func shuffled(d *dice.Dice, n int) []byte {
	t := make([]byte, n)
	for i, x := range d.Shuffled(n) {
		t[i] = byte(x - 1)
	}
	return t
}

func someRows(d *dice.Dice) [8]byte { return [8]byte(d.Bytes(8)) }

// isEachOnce is Is as the promise words it: each number looked for on its own.
func isEachOnce(t []byte) bool {
	for want := range len(t) {
		times := 0
		for _, x := range t {
			if int(x) == want {
				times++
			}
		}
		if times != 1 {
			return false
		}
	}
	return true
}

// affined is Affine as the promise words it, a bit at a time.
func affined(x byte, rows [8]byte, c byte) byte {
	var out byte
	for i := range 8 {
		bit := c >> i & 1
		for k := range 8 {
			if rows[i]>>k&1 == 1 {
				bit ^= x >> k & 1
			}
		}
		out |= bit << i
	}
	return out
}

func TestP401Is(t *testing.T) {
	for _, x := range []struct {
		t    []byte
		want bool
	}{
		{nil, true},
		{[]byte{}, true},
		{[]byte{0}, true},
		{[]byte{1}, false},
		{[]byte{255}, false},
		{[]byte{0, 1}, true},
		{[]byte{1, 0}, true},
		{[]byte{0, 0}, false},
		{[]byte{1, 1}, false},
		{[]byte{1, 2}, false},
		{[]byte{0, 2}, false},
		{[]byte{2, 0, 1}, true},
		{[]byte{0, 1, 1}, false},
		{[]byte{0, 0, 2}, false},
		{[]byte{0, 1, 3}, false},
		{[]byte{3, 0, 2, 1}, true},
		{[]byte{1, 1, 2, 2}, false}, // their sum is right, and yet
	} {
		if got := box.Is(x.t); got != x.want {
			t.Errorf("Is of %v: %v", x.t, got)
		}
	}
}

// Every table of up to four bytes that are 0 to 4.
func TestP401IsOfAllShort(t *testing.T) {
	for size := range 5 {
		table := make([]byte, size)
		for {
			want := isEachOnce(table)
			if got := box.Is(table); got != want {
				t.Errorf("Is of %v: %v", table, got)
			}
			back, got := box.Back(table)
			if got != want || !want && len(back) != 0 {
				t.Errorf("Back of %v: %v, %v", table, back, got)
			}
			if !next(table, 5) {
				break
			}
		}
	}
}

// next counts on by that base; false, when it has come round.
func next(table []byte, base byte) bool {
	for i := range table {
		table[i]++
		if table[i] < base {
			return true
		}
		table[i] = 0
	}
	return false
}

// Of each length that a table may have, and one byte of it spoilt.
func TestP401IsSpoilt(t *testing.T) {
	d := dice.New(401)
	for n := 1; n <= 256; n++ {
		table := shuffled(d, n)
		if !box.Is(table) {
			t.Fatalf("Is of %v", table)
		}
		at := d.Below(n)
		had := table[at]
		for bad := range 256 {
			table[at] = byte(bad)
			want := byte(bad) == had
			if box.Is(table) != want {
				t.Fatalf("Is of %v: not %v", table, want)
			}
			if back, is := box.Back(table); is != want || !want && len(back) != 0 {
				t.Fatalf("Back of %v: %v, %v", table, back, is)
			}
		}
	}
}

// More than 256 bytes cannot be each of 0 to their length less 1, though each
// byte is there, and be they as many as come round to a shorter length.
func TestP401MoreThanAByteHolds(t *testing.T) {
	all := shuffled(dice.New(402), 256)
	if !box.Is(all) {
		t.Error("Is of all bytes")
	}
	for _, n := range []int{257, 258, 300, 511, 512, 513, 1 << 16, 1<<16 + 256} {
		long := bytes.Repeat(all, n/256+1)[:n]
		for _, table := range [][]byte{long, make([]byte, n)} {
			if box.Is(table) {
				t.Errorf("Is of %d bytes", n)
			}
			if back, is := box.Back(table); is || len(back) != 0 {
				t.Errorf("Back of %d bytes: %v, %v", n, back, is)
			}
		}
	}
}

// Only what is there counts, not the room behind it.
func TestP401RoomBehindTheTable(t *testing.T) {
	room := []byte{2, 0, 1, 1, 9}
	if !box.Is(room[:3]) || !box.Is(room[:0]) || box.Is(room[:2]) || box.Is(room[:4]) {
		t.Error("Is looks behind the table")
	}
	if back, is := box.Back(room[:3]); !is || !bytes.Equal(back, []byte{1, 2, 0}) {
		t.Errorf("Back: %v, %v", back, is)
	}
}

func TestP401Back(t *testing.T) {
	for _, x := range []struct{ t, want []byte }{
		{[]byte{1, 0}, []byte{1, 0}}, // the chapter's example
		{nil, nil},
		{[]byte{}, nil},
		{[]byte{0}, []byte{0}},
		{[]byte{2, 0, 1}, []byte{1, 2, 0}},
		{[]byte{3, 0, 2, 1}, []byte{1, 3, 2, 0}},
	} {
		if got, is := box.Back(x.t); !is || !bytes.Equal(got, x.want) {
			t.Errorf("Back of %v: %v, %v, not %v", x.t, got, is, x.want)
		}
	}
	d := dice.New(403)
	for n := range 257 {
		table := shuffled(d, n)
		back, is := box.Back(table)
		if !is || len(back) != n {
			t.Fatalf("Back of %v: %v, %v", table, back, is)
		}
		for x, y := range table {
			if back[y] != byte(x) {
				t.Fatalf("Back of %v: %v", table, back)
			}
		}
	}
}

func TestP401Affine(t *testing.T) {
	full := [8]byte{255, 255, 255, 255, 255, 255, 255, 255}
	for _, x := range []struct {
		x    byte
		rows [8]byte
		c    byte
		want byte
	}{
		{0, [8]byte{}, 0, 0},
		{0xFF, [8]byte{}, 0xA7, 0xA7},
		{0, full, 0xA7, 0xA7},
		{0x01, full, 0, 0xFF},
		{0x80, full, 0, 0xFF},
		{0x81, full, 0, 0}, // by two bits: back again
		{0x83, full, 0x0F, 0xF0},
		{0xFF, full, 0, 0},
		{0x5A, same(), 0, 0x5A},
		{0x5A, same(), 0xFF, 0xA5},
		{0x01, [8]byte{0, 0, 0, 0, 0, 0, 0, 0x01}, 0, 0x80}, // the last row makes the highest bit
		{0x80, [8]byte{0x80}, 0, 0x01},
		{0b1011, [8]byte{0b1111, 0b0011, 0b1000, 0, 255, 0b0100}, 0b10000001, 0b10010100},
	} {
		if got := box.Affine(x.x, x.rows, x.c); got != x.want {
			t.Errorf("Affine of %08b by %08b, %08b: %08b, not %08b", x.x, x.rows, x.c, got, x.want)
		}
	}
}

// Each byte against each row, at each place of the row.
func TestP401AffineOfAll(t *testing.T) {
	for row := range 256 {
		for i := range 8 {
			var rows [8]byte
			rows[i] = byte(row)
			for x := range 256 {
				if got, want := box.Affine(byte(x), rows, 0), affined(byte(x), rows, 0); got != want {
					t.Fatalf("Affine of %08b by %08b: %08b, not %08b", x, rows, got, want)
				}
			}
		}
	}
}

func TestP401AffineOfAny(t *testing.T) {
	d := dice.New(404)
	for range 5000 {
		x, rows, c := byte(d.Next()), someRows(d), byte(d.Next())
		if got, want := box.Affine(x, rows, c), affined(x, rows, c); got != want {
			t.Fatalf("Affine of %08b by %08b, %08b: %08b, not %08b", x, rows, c, got, want)
		}
	}
}

func TestP401Make(t *testing.T) {
	counted := make([]byte, 256)
	for x := range counted {
		counted[x] = byte(x)
	}
	for _, x := range []struct {
		e, mod int
		rows   [8]byte
		c      byte
		want   []byte
	}{
		{1, 256, same(), 0, counted},
		{1, 511, same(), 0, counted},
		{0, 283, same(), 0, bytes.Repeat([]byte{1}, 256)}, // of no factors 1, of x = 0 too
		{0, 256, same(), 6, bytes.Repeat([]byte{7}, 256)},
		{1000, 283, [8]byte{}, 0x63, bytes.Repeat([]byte{0x63}, 256)},
	} {
		if got := box.Make(x.e, x.mod, x.rows, x.c); !bytes.Equal(got, x.want) {
			t.Errorf("Make of %d by %d: % X", x.e, x.mod, got)
		}
	}
}

// Two tables of old ciphers, in part, from memory; the last byte of the second
// one was worked out apart.
func TestP401MakeOfOldTables(t *testing.T) {
	for _, x := range []struct {
		e     int
		rows  [8]byte
		c     byte
		front []byte
		last  byte
	}{
		{
			254, [8]byte{0xF1, 0xE3, 0xC7, 0x8F, 0x1F, 0x3E, 0x7C, 0xF8}, 0x63,
			[]byte{0x63, 0x7C, 0x77, 0x7B, 0xF2, 0x6B, 0x6F, 0xC5, 0x30, 0x01, 0x67, 0x2B, 0xFE, 0xD7, 0xAB, 0x76}, 0x16,
		},
		{
			247, [8]byte{0x7A, 0xBC, 0xEB, 0xB9, 0x34, 0x81, 0xBA, 0xCB}, 0xE2,
			[]byte{0xE2, 0x4E, 0x54, 0xFC, 0x94, 0xC2, 0x4A, 0xCC, 0x62, 0x0D, 0x6A, 0x46, 0x3C, 0x4D, 0x8B, 0xD1}, 0x81,
		},
	} {
		got := box.Make(x.e, 283, x.rows, x.c)
		if len(got) != 256 || !box.Is(got) || !bytes.HasPrefix(got, x.front) || got[255] != x.last {
			t.Errorf("Make of %d: % X", x.e, got)
		}
	}
}

// Each exponent at the edges, each mod: byte by byte.
func TestP401MakeByteByByte(t *testing.T) {
	d := dice.New(405)
	for mod := 256; mod <= 511; mod++ {
		for _, e := range []int{0, 1, 2, 999, 1000, d.Below(1001)} {
			rows, c := someRows(d), byte(d.Next())
			got := box.Make(e, mod, rows, c)
			if len(got) != 256 {
				t.Fatalf("Make of %d by %d: %d bytes", e, mod, len(got))
			}
			for x, y := range got {
				if want := affined(field.Pow(byte(x), e, mod), rows, c); y != want {
					t.Fatalf("Make of %d by %d, of %d: %X, not %X", e, mod, x, y, want)
				}
			}
		}
	}
}

// An exponent or a mod that may not be is refused, not clamped (P9): no list.
func TestP401MakeRefuses(t *testing.T) {
	far := []int{math.MinInt, math.MinInt + 1, -1 << 32, -1000, -254, -1, math.MaxInt - 1, math.MaxInt, 1 << 32}
	noMods := slices.Concat(far, []int{0, 1, 27, 255, 512, 513, 283 + 512, 283 + 1<<32})
	noExponents := slices.Concat(far, []int{1001, 1002, 1024, 1_000_000, 254 + 1<<32})
	for _, mod := range noMods {
		for _, e := range append([]int{0, 1, 254, 1000}, noExponents...) {
			if got := box.Make(e, mod, same(), 0x63); len(got) != 0 {
				t.Errorf("Make of %d by %d: % X", e, mod, got)
			}
		}
	}
	for _, e := range noExponents {
		for _, mod := range []int{256, 283, 511} {
			if got := box.Make(e, mod, same(), 0x63); len(got) != 0 {
				t.Errorf("Make of %d by %d: % X", e, mod, got)
			}
		}
	}
}

// What is handed in stays as it was, its spare room too, and shares nothing
// with the answer; the same call answers the same again.
func TestP2P3BackLeavesAll(t *testing.T) {
	d := dice.New(406)
	for n := range 257 {
		room := append(shuffled(d, n), 1, 2, 3)
		was := bytes.Clone(room)
		first, _ := box.Back(room[:n])
		answer := bytes.Clone(first)
		dice.Spoil(first)
		if !box.Is(room[:n]) || !bytes.Equal(room, was) {
			t.Errorf("Back of %d bytes touches what is handed in", n)
		}
		second, _ := box.Back(room[:n])
		dice.Spoil(room)
		if !bytes.Equal(second, answer) {
			t.Errorf("Back of %d bytes: not the same again", n)
		}
	}
}

func TestP2RefusalsLeaveAll(t *testing.T) {
	for _, n := range []int{1, 2, 255, 256, 257, 300} {
		room := bytes.Repeat([]byte{7}, n+3)
		was := bytes.Clone(room)
		box.Is(room[:n])
		box.Back(room[:n])
		if !bytes.Equal(room, was) {
			t.Errorf("a refusal of %d bytes touches what is handed in", n)
		}
	}
}

// An answer of Make is new each time, whatever becomes of the last one.
func TestP2P3MakeIsNew(t *testing.T) {
	d := dice.New(407)
	for range 50 {
		e, mod, rows, c := d.Below(1001), 256+d.Below(256), someRows(d), byte(d.Next())
		first := box.Make(e, mod, rows, c)
		answer := bytes.Clone(first)
		dice.Spoil(first)
		if !bytes.Equal(box.Make(e, mod, rows, c), answer) {
			t.Fatalf("Make of %d by %d: not the same again", e, mod)
		}
	}
}

func TestP3AffineAnswersTheSame(t *testing.T) {
	ask := func(seed uint64) (all [200]byte) {
		d := dice.New(seed)
		for i := range all {
			all[i] = box.Affine(byte(d.Next()), someRows(d), byte(d.Next()))
		}
		return all
	}
	first := ask(3)
	ask(4)
	if ask(3) != first {
		t.Error("not the same again")
	}
}
