package small

import (
	"slices"

	"scrim/api"
	"scrim/words"
)

const (
	// stride is by how much the sums of Xtea and the first keys of Rc5 rise.
	stride = 0x9E3779B9

	xteaTimes = 32

	rc5First = 0xB7E15163
	rc5Keep  = 26
	rc5Times = 78
	rc5Turn  = 3
)

// keyBytes is 0 of a tag that is none of the three.
func keyBytes(tag int) int {
	switch tag {
	case api.Xtea, api.Rc5:
		return 16
	case api.Magma:
		return 32
	}
	return 0
}

// xteaKeys are two of each time: one ahead of the sum's rise, one behind it.
func xteaKeys(k []uint32) []uint32 {
	keys := make([]uint32, 0, 2*xteaTimes)
	var s uint32
again:
	keys = append(keys, s+k[s%4])
	s += stride
	keys = append(keys, s+k[s>>11%4])
	if len(keys) < 2*xteaTimes {
		goto again
	}
	return keys
}

func magmaKeys(k []uint32) []uint32 {
	// Whatever room k has, none goes with it here, so that what is appended lies
	// in new memory and is not turned round with k.
	keys := append(k[:len(k):len(k)], k...)
	keys = append(keys, k...)
	slices.Reverse(k)
	return append(keys, k...)
}

// rc5Keys uses l up.
func rc5Keys(l []uint32) []uint32 {
	s := make([]uint32, rc5Keep)
	for i := range s {
		s[i] = rc5First + uint32(i)*stride
	}
	var a, b uint32
	n := 0
mix:
	i, j := n%len(s), n%len(l)
	a = words.Rol32(s[i]+a+b, rc5Turn)
	b = words.Rol32(l[j]+a+b, turnOf(a+b))
	s[i], l[j] = a, b
	n++
	if n < rc5Times {
		goto mix
	}
	return s
}
