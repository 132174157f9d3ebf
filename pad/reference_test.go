package pad_test

import "scrim/api"

// place is the byte at place i of the n that the chapter has added; a false: any
// byte may stand there.
func place(kind, n, i int) (byte, bool) {
	switch {
	case kind == api.Pkcs7, kind == api.X923 && i == n-1:
		return byte(n), true
	case kind == api.Iso && i == 0:
		return 128, true
	}
	return 0, kind == api.Iso
}

// toldAdd is what the chapter makes of tail, place by place.
func toldAdd(kind, size int, tail []byte) []byte {
	var out []byte
	out = append(out, tail...)
	n := size - len(tail)
	for i := range n {
		v, _ := place(kind, n, i)
		out = append(out, v)
	}
	return out
}

// toldStrip is each of the numbers of bytes by which block ends so.
func toldStrip(kind int, block []byte) []int {
	var all []int
	for n := 1; n <= len(block); n++ {
		so := true
		for i, x := range block[len(block)-n:] {
			v, counts := place(kind, n, i)
			so = so && (x == v || !counts)
		}
		if so {
			all = append(all, n)
		}
	}
	return all
}
