package aria_test

import (
	"slices"
	"strconv"
	"strings"
)

// What stands here is told as the chapter words it, from scratch: no layer is
// called.

// sums is the chapter's table, both columns one under the other.
const sums = `3 4 6 8 9 13 14
2 5 7 8 9 12 15
1 4 6 10 11 12 15
0 5 7 10 11 13 14
0 2 5 8 11 14 15
1 3 4 9 10 14 15
0 2 7 9 10 12 13
1 3 6 8 11 12 13
0 1 4 7 10 13 15
0 1 5 6 11 12 14
2 3 5 6 8 13 15
2 3 4 7 9 12 14
1 2 6 7 9 11 12
0 3 6 7 8 10 13
0 3 4 5 9 11 14
1 2 4 5 8 10 15`

// referenceMix is Mix of sixteen bytes.
func referenceMix(x []byte) []byte {
	var y []byte
	for _, line := range strings.Split(sums, "\n") {
		var sum byte
		for _, place := range strings.Fields(line) {
			i, _ := strconv.Atoi(place)
			sum ^= x[i]
		}
		y = append(y, sum)
	}
	return y
}

// times is the product as one of sums of powers of x, and then its rest by 283.
func times(a, b byte) byte {
	product := 0
	for i := range 8 {
		if b>>i&1 == 1 {
			product ^= int(a) << i
		}
	}
	for i := 7; i >= 0; i-- {
		if product>>(i+8)&1 == 1 {
			product ^= 283 << i
		}
	}
	return byte(product)
}

// power is the product of n a's.
func power(a byte, n int) byte {
	out := byte(1)
	for range n {
		out = times(out, a)
	}
	return out
}

// bent is each row's bits of x, summed, and c on top.
func bent(x byte, rows []byte, c byte) byte {
	for i, row := range rows {
		for k := range 8 {
			c ^= row >> k & 1 * (x >> k & 1) << i
		}
	}
	return c
}

// referenceTables are S1, S2, X1, X2.
var referenceTables = tables()

func tables() [4][256]byte {
	var out [4][256]byte
	for x := range 256 {
		one := bent(power(byte(x), 254), raw("F1 E3 C7 8F 1F 3E 7C F8"), 0x63)
		two := bent(power(byte(x), 247), raw("7A BC EB B9 34 81 BA CB"), 0xE2)
		out[0][x], out[1][x] = one, two
		out[2][one], out[3][two] = byte(x), byte(x)
	}
	return out
}

// referenceLayer is Layer of sixteen bytes.
func referenceLayer(which int, b []byte) []byte {
	order := [][]int{{0, 1, 2, 3}, {2, 3, 0, 1}}[which-1]
	var out []byte
	for i, v := range b {
		out = append(out, referenceTables[order[i%4]][v])
	}
	return out
}

func sum(a, b []byte) []byte {
	var out []byte
	for i := range a {
		out = append(out, a[i]^b[i])
	}
	return out
}

// leftBy turns a row of signs 0 and 1.
func leftBy(b []byte, n int) []byte {
	var row strings.Builder
	for _, v := range b {
		row.WriteString(strconv.FormatInt(int64(v)+256, 2)[1:])
	}
	n = (n + 128) % 128
	turned := row.String()[n:] + row.String()[:n]
	var out []byte
	for i := 0; i < 128; i += 8 {
		v, _ := strconv.ParseUint(turned[i:i+8], 2, 8)
		out = append(out, byte(v))
	}
	return out
}

func referenceKeys(key []byte) [][]byte {
	c0 := raw("517CC1B727220A94FE13ABE8FA9A6EE0")
	c1 := raw("6DB14ACC9E21C820FF28B1D5EF5DE2B0")
	c2 := raw("DB92371D2126E9700324977504E8C90E")
	d, many := [][]byte{c0, c1, c2}, 13
	switch len(key) {
	case 24:
		d, many = [][]byte{c1, c2, c0}, 15
	case 32:
		d, many = [][]byte{c2, c0, c1}, 17
	}
	r := slices.Concat(key[16:], make([]byte, 16))[:16]
	w0 := key[:16]
	w1 := sum(referenceMix(referenceLayer(1, sum(w0, d[0]))), r)
	w2 := sum(referenceMix(referenceLayer(2, sum(w1, d[1]))), w0)
	w3 := sum(referenceMix(referenceLayer(1, sum(w2, d[2]))), w1)
	var keys [][]byte
	for _, n := range []int{-19, -31, 61, 31, 19} {
		keys = append(keys, sum(w0, leftBy(w1, n)), sum(w1, leftBy(w2, n)), sum(w2, leftBy(w3, n)), sum(w3, leftBy(w0, n)))
	}
	return keys[:many]
}

// referenceBlock is a block, there.
func referenceBlock(key, b []byte) []byte {
	keys := referenceKeys(key)
	last := len(keys) - 1
	for i, k := range keys[:last-1] {
		b = referenceMix(referenceLayer(i%2+1, sum(b, k)))
	}
	return sum(referenceLayer(2, sum(b, keys[last-1])), keys[last])
}
