package pad_test

import (
	"bytes"
	"math"
	"slices"
	"testing"

	"scrim/api"
	"scrim/dice"
	"scrim/pad"
)

func allKinds() []int { return []int{api.Pkcs7, api.Iso, api.X923} }

func allSizes() []int { return []int{8, 16} }

// noKinds are none, also those that a narrower number would take for one.
func noKinds() []int {
	return []int{
		0, api.None, 5, 6, 255, 256 + api.Pkcs7, 1<<16 + api.Iso, 1<<32 + api.X923, -1, -2, -3, -4,
		-1 << 32, -1<<32 + api.Pkcs7, math.MinInt, math.MinInt + api.Iso, math.MaxInt,
	}
}

// noSizes likewise.
func noSizes() []int {
	return []int{
		0, 1, 2, 3, 4, 5, 6, 7, 9, 10, 11, 12, 13, 14, 15, 17, 23, 24, 32, 64, 128, 255, 256, 256 + 8, 256 + 16,
		1<<16 + 8, 1<<32 + 8, 1<<32 + 16, -1, -7, -8, -9, -16, -256 + 8, -1<<32 + 8, math.MinInt, math.MinInt + 16,
		math.MaxInt, math.MaxInt - 7,
	}
}

// each calls for each padding of blocks of each size.
func each(call func(kind, size int)) {
	for _, kind := range allKinds() {
		for _, size := range allSizes() {
			call(kind, size)
		}
	}
}

// padded is Add of what may be.
func padded(t *testing.T, kind, size int, tail []byte) []byte {
	t.Helper()
	out, e := pad.Add(kind, size, tail)
	if e != api.OK || len(out) != size {
		t.Fatalf("Add of %d, %d, % X: % X, %v", kind, size, tail, out, e)
	}
	return out
}

// stripped is Strip of what ends so.
func stripped(t *testing.T, kind, size int, block []byte) []byte {
	t.Helper()
	out, e := pad.Strip(kind, size, block)
	if e != api.OK || len(out) >= size {
		t.Fatalf("Strip of %d, %d, % X: % X, %v", kind, size, block, out, e)
	}
	return out
}

func refusedAdd(t *testing.T, kind, size int, tail []byte, want api.Errno) {
	t.Helper()
	if out, e := pad.Add(kind, size, tail); e != want || len(out) != 0 {
		t.Errorf("Add of %d, %d, %d bytes: % X, %v, not %v", kind, size, len(tail), out, e, want)
	}
}

func refusedStrip(t *testing.T, kind, size int, block []byte, want api.Errno) {
	t.Helper()
	if out, e := pad.Strip(kind, size, block); e != want || len(out) != 0 {
		t.Errorf("Strip of %d, %d, % X: % X, %v, not %v", kind, size, block, out, e, want)
	}
}

// checkStrip holds Strip of a block against the chapter's words. More than one
// padding no block has (T3).
func checkStrip(t *testing.T, kind int, block []byte) {
	t.Helper()
	size, all := len(block), toldStrip(kind, block)
	switch len(all) {
	case 0:
		refusedStrip(t, kind, size, block, api.BadPadding)
	case 1:
		if got := stripped(t, kind, size, block); !bytes.Equal(got, block[:size-all[0]]) {
			t.Fatalf("Strip of %d, % X: % X, not the first %d", kind, block, got, size-all[0])
		}
	default:
		t.Fatalf("% X ends in %d paddings of %d", block, len(all), kind)
	}
}

// patched are bytes of which some are those that paddings are made of.
func patched(d *dice.Dice, n int) []byte {
	b := d.Bytes(n)
	from, v := d.Below(n+1), []byte{0, 1, 8, 16, 128, byte(d.Below(17))}[d.Below(6)]
	for i := from; i < n; i++ {
		b[i] = v
	}
	if n > 0 && d.Below(2) == 0 {
		b[d.Below(n)] = []byte{0, 128, byte(d.Below(20))}[d.Below(3)]
	}
	return b
}

func TestP1401AddAsTold(t *testing.T) {
	for _, x := range []struct {
		kind       int
		tail, want []byte
	}{
		{api.Pkcs7, nil, []byte{8, 8, 8, 8, 8, 8, 8, 8}},
		{api.Pkcs7, []byte{1, 2, 3}, []byte{1, 2, 3, 5, 5, 5, 5, 5}},
		{api.Pkcs7, []byte{1, 2, 3, 4, 5, 6, 7}, []byte{1, 2, 3, 4, 5, 6, 7, 1}},
		{api.Pkcs7, nil, bytes.Repeat([]byte{16}, 16)},
		{api.Pkcs7, []byte{9, 8, 7, 6, 5}, []byte{9, 8, 7, 6, 5, 11, 11, 11, 11, 11, 11, 11, 11, 11, 11, 11}},
		{api.Iso, nil, []byte{128, 0, 0, 0, 0, 0, 0, 0}},
		{api.Iso, []byte{1, 2, 3}, []byte{1, 2, 3, 128, 0, 0, 0, 0}},
		{api.Iso, []byte{1, 2, 3, 4, 5, 6, 7}, []byte{1, 2, 3, 4, 5, 6, 7, 128}},
		{api.Iso, []byte{128, 0, 128}, []byte{128, 0, 128, 128, 0, 0, 0, 0, 0, 0, 0, 0, 0, 0, 0, 0}},
		{api.X923, nil, []byte{0, 0, 0, 0, 0, 0, 0, 8}},
		{api.X923, []byte{1, 2, 3}, []byte{1, 2, 3, 0, 0, 0, 0, 5}},
		{api.X923, []byte{1, 2, 3, 4, 5, 6, 7}, []byte{1, 2, 3, 4, 5, 6, 7, 1}},
		{api.X923, []byte{9}, []byte{9, 0, 0, 0, 0, 0, 0, 0, 0, 0, 0, 0, 0, 0, 0, 15}},
	} {
		if got := padded(t, x.kind, len(x.want), x.tail); !bytes.Equal(got, x.want) {
			t.Errorf("Add of %d, % X: % X, not % X", x.kind, x.tail, got, x.want)
		}
	}
}

// Of each number of bytes, none too.
func TestP1401Add(t *testing.T) {
	d := dice.New(1401)
	each(func(kind, size int) {
		for n := range size {
			for range 30 {
				tail := patched(d, n)
				if got, want := padded(t, kind, size, tail), toldAdd(kind, size, tail); !bytes.Equal(got, want) {
					t.Fatalf("Add of %d, % X: % X, not % X", kind, tail, got, want)
				}
			}
		}
		if !bytes.Equal(padded(t, kind, size, []byte{}), toldAdd(kind, size, nil)) {
			t.Errorf("Add of %d: an empty list is not none", kind)
		}
	})
}

// A padding that is none is told ahead of all else that may not be (P6).
func TestP1401RefusesKinds(t *testing.T) {
	room := bytes.Repeat([]byte{1}, 60)
	for _, kind := range noKinds() {
		for _, size := range slices.Concat(allSizes(), noSizes()) {
			for n := range 40 {
				refusedAdd(t, kind, size, room[:n], api.BadMode)
				refusedStrip(t, kind, size, room[:n], api.BadMode)
			}
			refusedAdd(t, kind, size, nil, api.BadMode)
			refusedStrip(t, kind, size, nil, api.BadMode)
		}
	}
}

// Whatever ends so: as many bytes as that size says, too.
func TestP1401RefusesSizes(t *testing.T) {
	for _, kind := range allKinds() {
		for _, size := range noSizes() {
			for n := range 300 {
				refusedAdd(t, kind, size, make([]byte, n), api.ErrArg)
				refusedStrip(t, kind, size, slices.Concat(make([]byte, n), []byte{128}), api.ErrArg)
				refusedStrip(t, kind, size, slices.Concat(make([]byte, n), []byte{1}), api.ErrArg)
			}
			refusedAdd(t, kind, size, nil, api.ErrArg)
			refusedStrip(t, kind, size, nil, api.ErrArg)
		}
	}
}

// A block's bytes or more are no tail.
func TestP1401AddRefusesTails(t *testing.T) {
	d := dice.New(1402)
	each(func(kind, size int) {
		for n := size; n < 300; n++ {
			refusedAdd(t, kind, size, d.Bytes(n), api.ErrArg)
		}
	})
}

// Fewer bytes than a block has, though the room behind would fill them up, or
// more, though they end so; ErrArg is told ahead of BadPadding.
func TestP1401StripRefusesLengths(t *testing.T) {
	each(func(kind, size int) {
		for n := range 300 {
			if n == size {
				continue
			}
			for _, v := range []byte{0, 1, 128} {
				refusedStrip(t, kind, size, bytes.Repeat([]byte{v}, n+size)[:n], api.ErrArg)
			}
		}
		refusedStrip(t, kind, size, nil, api.ErrArg)
		refusedStrip(t, kind, size, []byte{}, api.ErrArg)
	})
}

func TestP1401StripAsTold(t *testing.T) {
	for _, x := range []struct {
		kind  int
		block []byte
		left  int
	}{
		{api.Pkcs7, []byte{1, 2, 3, 5, 5, 5, 5, 5}, 3},
		{api.Pkcs7, []byte{5, 5, 5, 5, 5, 5, 5, 5}, 3},
		{api.Pkcs7, []byte{2, 2, 2, 2, 2, 2, 2, 1}, 7},
		{api.Pkcs7, []byte{8, 8, 8, 8, 8, 8, 8, 8}, 0},
		{api.Pkcs7, bytes.Repeat([]byte{16}, 16), 0},
		{api.Pkcs7, bytes.Repeat([]byte{8}, 16), 8},
		{api.Iso, []byte{128, 0, 0, 0, 0, 0, 0, 0}, 0},
		{api.Iso, []byte{128, 128, 128, 128, 128, 128, 128, 128}, 7},
		{api.Iso, []byte{1, 128, 0, 128, 0, 0, 0, 0}, 3},
		{api.X923, []byte{1, 2, 3, 9, 9, 9, 9, 5}, 3},
		{api.X923, []byte{1, 2, 3, 4, 5, 6, 7, 8}, 0},
		{api.X923, []byte{0, 0, 0, 0, 0, 0, 0, 1}, 7},
		{api.X923, []byte{1, 2, 3, 4, 5, 6, 7, 8, 9, 10, 11, 12, 13, 14, 15, 16}, 0},
	} {
		if got := stripped(t, x.kind, len(x.block), x.block); !bytes.Equal(got, x.block[:x.left]) {
			t.Errorf("Strip of %d, % X: % X, not the first %d", x.kind, x.block, got, x.left)
		}
	}
}

// Eight noughts, the chapter's example, among them.
func TestP1401StripRefusesPaddingsAsTold(t *testing.T) {
	for _, x := range []struct {
		kind  int
		block []byte
	}{
		{api.Iso, make([]byte, 8)},
		{api.Iso, make([]byte, 16)},
		{api.Iso, []byte{128, 0, 0, 0, 0, 0, 0, 1}},
		{api.Iso, []byte{128, 1, 0, 0, 0, 0, 0, 0}},
		{api.Iso, []byte{1, 2, 3, 4, 5, 6, 7, 129}},
		{api.Pkcs7, make([]byte, 8)},
		{api.Pkcs7, []byte{1, 2, 3, 4, 5, 6, 3, 3}},
		{api.Pkcs7, []byte{1, 2, 3, 4, 5, 3, 4, 3}},
		{api.Pkcs7, []byte{1, 2, 3, 4, 5, 4, 3, 3}},
		{api.Pkcs7, []byte{7, 8, 8, 8, 8, 8, 8, 8}},
		{api.Pkcs7, bytes.Repeat([]byte{9}, 8)},
		{api.Pkcs7, bytes.Repeat([]byte{16}, 8)},
		{api.Pkcs7, bytes.Repeat([]byte{17}, 16)},
		{api.Pkcs7, bytes.Repeat([]byte{255}, 16)},
		{api.X923, make([]byte, 8)},
		{api.X923, []byte{0, 0, 0, 0, 0, 0, 0, 9}},
		{api.X923, []byte{0, 0, 0, 0, 0, 0, 0, 16}},
		{api.X923, []byte{0, 0, 0, 0, 0, 0, 0, 255}},
		{api.X923, append(make([]byte, 15), 17)},
	} {
		refusedStrip(t, x.kind, len(x.block), x.block, api.BadPadding)
	}
}

// Each last byte, behind each number of the same ones and of noughts.
func TestP1401StripByLastByte(t *testing.T) {
	d := dice.New(1403)
	each(func(kind, size int) {
		for v := range 256 {
			for n := range size {
				block := d.Bytes(size)
				for i := n; i < size; i++ {
					block[i] = byte(v)
				}
				checkStrip(t, kind, block)
				noughts := make([]byte, size)
				noughts[n] = byte(v)
				checkStrip(t, kind, noughts)
			}
		}
	})
}

// Every block of eight bytes that are each one of these.
func TestP1401StripOfEveryBlock(t *testing.T) {
	signs := []byte{0, 1, 2, 3, 128}
	total := 5 * 5 * 5 * 5 * 5 * 5 * 5 * 5
	for _, kind := range allKinds() {
		block := make([]byte, 8)
		for k := range total {
			for i := range block {
				block[i] = signs[k%5]
				k /= 5
			}
			checkStrip(t, kind, block)
		}
	}
}

// What Add has made, with one byte changed.
func TestP1401StripOfSpoiltPaddings(t *testing.T) {
	d := dice.New(1404)
	each(func(kind, size int) {
		for n := range size {
			for at := range size {
				for bit := range 8 {
					block := padded(t, kind, size, d.Bytes(n))
					block[at] ^= 1 << bit
					checkStrip(t, kind, block)
				}
			}
		}
	})
}

func TestP1401Strip(t *testing.T) {
	d := dice.New(1405)
	each(func(kind, size int) {
		for range 5000 {
			checkStrip(t, kind, patched(d, size))
		}
	})
}

// Also where the tail ends as a padding does.
func TestP1402StripOfAdd(t *testing.T) {
	d := dice.New(1406)
	each(func(kind, size int) {
		for n := range size {
			tails := [][]byte{d.Bytes(n)}
			for v := range 256 {
				tails = append(tails, bytes.Repeat([]byte{byte(v)}, n))
			}
			for range 50 {
				tails = append(tails, patched(d, n))
			}
			for _, other := range allKinds() {
				if n > 0 {
					tails = append(tails, toldAdd(other, n, d.Bytes(d.Below(n))))
				}
			}
			for _, tail := range tails {
				if got := stripped(t, kind, size, padded(t, kind, size, tail)); !bytes.Equal(got, tail) {
					t.Fatalf("%d, %d: % X is not % X", kind, size, got, tail)
				}
			}
		}
	})
}

// Neither call changes what it is handed, or the room behind it, and neither
// shares any of it with an answer; no later call touches an answer; the same call
// answers the same again.
func TestP2P3AddLeavesAll(t *testing.T) {
	d := dice.New(1407)
	each(func(kind, size int) {
		for n := range size {
			room := d.Bytes(3 * size)
			had, want := bytes.Clone(room), toldAdd(kind, size, room[:n])
			first := padded(t, kind, size, room[:n])
			padded(t, kind, size, room[size:size+n])
			if !bytes.Equal(first, want) {
				t.Fatalf("%d, %d: an answer is written over", kind, size)
			}
			dice.Spoil(first)
			refusedAdd(t, kind, size, room[:size+n], api.ErrArg)
			refusedAdd(t, 0, size, room[:n], api.BadMode)
			if !bytes.Equal(room, had) {
				t.Fatalf("%d, %d: what is handed in is touched", kind, size)
			}
			second := padded(t, kind, size, room[:n])
			dice.Spoil(room)
			if !bytes.Equal(second, want) {
				t.Fatalf("%d, %d: not the same again", kind, size)
			}
		}
	})
}

func TestP2P3StripLeavesAll(t *testing.T) {
	d := dice.New(1408)
	each(func(kind, size int) {
		for n := range size {
			want := d.Bytes(n)
			room := slices.Concat(toldAdd(kind, size, want), d.Bytes(2*size))
			had := bytes.Clone(room)
			first := stripped(t, kind, size, room[:size])
			stripped(t, kind, size, toldAdd(kind, size, d.Bytes(n)))
			if !bytes.Equal(first, want) {
				t.Fatalf("%d, %d: an answer is written over", kind, size)
			}
			dice.Spoil(first)
			refusedStrip(t, kind, size, room[:size+n+1], api.ErrArg)
			refusedStrip(t, 0, size, room[:size], api.BadMode)
			refusedStrip(t, kind, size, bytes.Repeat([]byte{255}, size), api.BadPadding)
			if !bytes.Equal(room, had) {
				t.Fatalf("%d, %d: what is handed in is touched", kind, size)
			}
			second := stripped(t, kind, size, room[:size])
			dice.Spoil(room)
			if !bytes.Equal(second, want) {
				t.Fatalf("%d, %d: not the same again", kind, size)
			}
		}
	})
}
