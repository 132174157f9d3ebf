package twofish_test

import (
	"slices"
	"strings"
)

// What stands here is told as the chapter words it, from scratch: no layer is
// called.

const signs = "0123456789ABCDEF"

func referenceRows(which int) []string {
	if which == 0 {
		return []string{"817D6F320B59ECA4", "ECB81235F4A6709D", "BA5E6D90C8F32471", "D7F4126E9B3085CA"}
	}
	return []string{"28BDF76E31940AC5", "1E2B4C376DA5F908", "4C75169A0ED82B3F", "B951C3DE647F208A"}
}

// referenceQ is Q, by signs.
func referenceQ(which int, x byte) byte {
	row := referenceRows(which)
	a, c := int(x)/16, int(x)%16
	for _, two := range [][]string{row[:2], row[2:]} {
		e := a ^ c
		f := a ^ (c/2 + c%2*8) ^ (8 * a % 16)
		a, c = strings.IndexByte(signs, two[0][e]), strings.IndexByte(signs, two[1][f])
	}
	return byte(16*c + a)
}

// times is the product as one of sums of powers of x, and then its rest by mod.
func times(a, b byte, mod int) byte {
	product := 0
	for i := range 8 {
		if b>>i&1 == 1 {
			product ^= int(a) << i
		}
	}
	for i := 7; i >= 0; i-- {
		if product>>(i+8)&1 == 1 {
			product ^= mod << i
		}
	}
	return byte(product)
}

// at is the word of b that begins at byte i, the lowest byte first.
func at(b []byte, i int) uint32 {
	var v uint32
	for k := 3; k >= 0; k-- {
		v = v*256 + uint32(b[i+k])
	}
	return v
}

// told are words as bytes, the lowest one first.
func told(l ...uint32) []byte {
	var b []byte
	for _, v := range l {
		b = append(b, byte(v), byte(v/256), byte(v/65536), byte(v/16777216))
	}
	return b
}

// leftBy turns one bit at a time.
func leftBy(v uint32, n int) uint32 {
	for range n {
		v = v*2 + v/2147483648
	}
	return v
}

// referenceH goes byte by byte.
func referenceH(x uint32, l []uint32) uint32 {
	y := told(x)
	step := func(a, b, c, d int, w []byte) {
		for i, which := range []int{a, b, c, d} {
			y[i] = referenceQ(which, y[i]) ^ w[i]
		}
	}
	if len(l) == 4 {
		step(1, 0, 0, 1, told(l[3]))
	}
	if len(l) >= 3 {
		step(1, 1, 0, 0, told(l[2]))
	}
	step(0, 1, 0, 1, told(l[1]))
	step(0, 0, 1, 1, told(l[0]))
	step(1, 0, 1, 0, told(0))
	ef := func(i int) byte { return times(0xEF, y[i], 361) }
	fb := func(i int) byte { return times(0x5B, y[i], 361) }
	return at([]byte{
		y[0] ^ ef(1) ^ fb(2) ^ fb(3),
		fb(0) ^ ef(1) ^ ef(2) ^ y[3],
		ef(0) ^ fb(1) ^ y[2] ^ ef(3),
		ef(0) ^ y[1] ^ ef(2) ^ fb(3),
	}, 0)
}

// referenceKeys are both answers of Keys.
func referenceKeys(key []byte) (k, s []uint32) {
	var even, odd []uint32
	for i := 0; i < len(key); i += 8 {
		even, odd = append(even, at(key, i)), append(odd, at(key, i+4))
		s = append([]uint32{shrunk(key[i : i+8])}, s...)
	}
	for i := range uint32(20) {
		a := referenceH(2*i*0x01010101, even)
		b := leftBy(referenceH((2*i+1)*0x01010101, odd), 8)
		k = append(k, a+b, leftBy(a+b+b, 9))
	}
	return k, s
}

// shrunk is the word of eight bytes of a key.
func shrunk(m []byte) uint32 {
	var b []byte
	for _, row := range []string{"01A455875A58DB9E", "A45682F31EC668E5", "02A1FCC147AE3D19", "A455875A58DB9E03"} {
		var sum byte
		for i, r := range raw(row) {
			sum ^= times(r, m[i], 333)
		}
		b = append(b, sum)
	}
	return at(b, 0)
}

// referenceBlock is a block, there.
func referenceBlock(key, b []byte) []byte {
	k, s := referenceKeys(key)
	r := []uint32{at(b, 0) ^ k[0], at(b, 4) ^ k[1], at(b, 8) ^ k[2], at(b, 12) ^ k[3]}
	for n := range 16 {
		t, u := referenceH(r[0], s), referenceH(leftBy(r[1], 8), s)
		r[2] = leftBy(r[2]^(t+u+k[2*n+8]), 31)
		r[3] = leftBy(r[3], 1) ^ (t + u + u + k[2*n+9])
		r = slices.Concat(r[2:], r[:2])
	}
	return told(r[2]^k[4], r[3]^k[5], r[0]^k[6], r[1]^k[7])
}
