package twofish

import (
	"scrim/field"
	"scrim/words"
)

const (
	mixMod    = 361
	shrinkMod = 333

	leastWords    = 2
	greatestWords = 4
)

// rows are those of either Q: a row of sixteen signs (W3) is one number, whose
// signs are the same; the highest four bits are the row's first.
var rows = [2][4]uint64{
	{0x817D6F320B59ECA4, 0xECB81235F4A6709D, 0xBA5E6D90C8F32471, 0xD7F4126E9B3085CA},
	{0x28BDF76E31940AC5, 0x1E2B4C376DA5F908, 0x4C75169A0ED82B3F, 0xB951C3DE647F208A},
}

// orders are the Qs that the four bytes go through while H has so many words left
// to mix in.
var orders = [greatestWords + 1][4]int{
	{1, 0, 1, 0},
	{0, 0, 1, 1},
	{0, 1, 0, 1},
	{1, 1, 0, 0},
	{1, 0, 0, 1},
}

// mixRows are H's: a row for each byte of the answer.
var mixRows = [4][4]byte{
	{0x01, 0xEF, 0x5B, 0x5B},
	{0x5B, 0xEF, 0xEF, 0x01},
	{0xEF, 0x5B, 0x01, 0xEF},
	{0xEF, 0x01, 0xEF, 0x5B},
}

// shrinkRows make eight bytes of a key four.
var shrinkRows = [4][8]byte{
	{0x01, 0xA4, 0x55, 0x87, 0x5A, 0x58, 0xDB, 0x9E},
	{0xA4, 0x56, 0x82, 0xF3, 0x1E, 0xC6, 0x68, 0xE5},
	{0x02, 0xA1, 0xFC, 0xC1, 0x47, 0xAE, 0x3D, 0x19},
	{0xA4, 0x55, 0x87, 0x5A, 0x58, 0xDB, 0x9E, 0x03},
}

func Q(which int, x byte) byte {
	if which != 0 && which != 1 {
		return 0
	}
	a, c := x>>4, x&15
	for i := 0; i < len(rows[which]); i += 2 {
		e := a ^ c
		f := a ^ (c>>1|c<<3)&15 ^ a<<3&15
		a, c = sign(rows[which][i], e), sign(rows[which][i+1], f)
	}
	return c<<4 | a
}

func H(x uint32, l []uint32) uint32 {
	if len(l) < leastWords || len(l) > greatestWords {
		return 0
	}
	// A longer list has only more steps ahead: the last ones are those of a shorter.
	left := len(l)
step:
	x = replaced(x, left)
	if left > 0 {
		left--
		x ^= l[left]
		goto step
	}
	return mix(x)
}

// replaced is x, each of its bytes by its own Q, so many words left.
func replaced(x uint32, left int) uint32 {
	var out uint32
	for i, which := range orders[left] {
		out |= uint32(Q(which, byte(x>>(8*i)))) << (8 * i)
	}
	return out
}

func mix(x uint32) uint32 {
	y := words.PutLe32(x)
	var out uint32
	for i, row := range mixRows {
		out |= uint32(sum(row[:], y, mixMod)) << (8 * i)
	}
	return out
}

func shrunk(eight []byte) uint32 {
	var out uint32
	for i, row := range shrinkRows {
		out |= uint32(sum(row[:], eight, shrinkMod)) << (8 * i)
	}
	return out
}

// sum is of the products of the row's bytes with those of b; both have as many.
func sum(row, b []byte, mod int) byte {
	var out byte
	for i, x := range b {
		out ^= field.Mul(x, row[i], mod)
	}
	return out
}

// sign is the row's at that place, 0 to 15.
func sign(row uint64, place byte) byte { return byte(row>>(60-4*place)) & 15 }
