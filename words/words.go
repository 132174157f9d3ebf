// Package words: bytes as words. See doc/01-words.md.
package words

import "math/bits"

func Be32(b []byte) (uint32, bool) {
	if len(b) != 4 {
		return 0, false
	}
	return uint32(gather(b)), true
}

// Le32 asks Be32, so that both refuse the same lengths.
func Le32(b []byte) (uint32, bool) {
	v, ok := Be32(b)
	return bits.ReverseBytes32(v), ok
}

func Be64(b []byte) (uint64, bool) {
	if len(b) != 8 {
		return 0, false
	}
	return gather(b), true
}

func PutBe32(v uint32) []byte { return spread(uint64(v), 4) }

func PutLe32(v uint32) []byte { return PutBe32(bits.ReverseBytes32(v)) }

func PutBe64(v uint64) []byte { return spread(v, 8) }

// Rol32 needs no rest of its own: the library's turn takes any n by its rest,
// the least int and other negative ones too. So does Rol8.
func Rol32(v uint32, n int) uint32 { return bits.RotateLeft32(v, n) }

func Rol8(v byte, n int) byte { return bits.RotateLeft8(v, n) }

func Turn(b []byte, n int) []byte {
	if len(b) == 0 { // there is no rest by 0
		return nil
	}
	// Whole bytes and bits apart: n is 8 (n>>3) + (n&7), a negative one too, and
	// how many bits b has, which an int may not hold, need not be known.
	from, by := rest(n>>3, len(b)), n&7
	out := make([]byte, len(b))
	for i := range out {
		next := from + 1
		if next == len(b) {
			next = 0
		}
		out[i] = b[from]<<by | b[next]>>(8-by)
		from = next
	}
	return out
}

func Xor(a, b []byte) ([]byte, bool) {
	if len(a) != len(b) {
		return nil, false
	}
	out := make([]byte, len(a))
	for i, x := range a {
		out[i] = x ^ b[i]
	}
	return out, true
}

func Inc(b []byte) []byte {
	out := make([]byte, len(b))
	copy(out, b)
	i := len(out)
carry:
	if i == 0 {
		return out
	}
	i--
	out[i]++
	// A byte that came round to 0 owes one to the byte ahead of it.
	if out[i] == 0 {
		goto carry
	}
	return out
}

// gather and spread alone know the order of bytes; the faces lean on them.
func gather(b []byte) uint64 {
	var v uint64
	for _, x := range b {
		v = v<<8 | uint64(x)
	}
	return v
}

func spread(v uint64, n int) []byte {
	b := make([]byte, n)
	for i := range b {
		b[i] = byte(v >> (8 * (n - 1 - i)))
	}
	return b
}

// rest stands in for the language's %, which keeps the sign of n (W5 has none).
func rest(n, m int) int {
	r := n % m
	if r < 0 {
		r += m
	}
	return r
}
