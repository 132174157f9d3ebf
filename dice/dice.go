// Package dice throws numbers for the tests of the other packages, and spoils
// lists for them; the program itself imports it nowhere.
package dice

// Dice throw the same row of numbers each time, so that a fault comes back.
type Dice struct{ state uint64 }

func New(seed uint64) *Dice { return &Dice{seed} }

func (d *Dice) Next() uint64 {
	d.state += 0x9E3779B97F4A7C15
	z := d.state
	z = (z ^ z>>30) * 0xBF58476D1CE4E5B9
	z = (z ^ z>>27) * 0x94D049BB133111EB
	return z ^ z>>31
}

// Below is told no n under 1.
func (d *Dice) Below(n int) int { return int(d.Next() % uint64(n)) }

func (d *Dice) Bytes(n int) []byte {
	b := make([]byte, n)
	for i := range b {
		b[i] = byte(d.Next())
	}
	return b
}

// Shuffled is each of 1 to n once.
func (d *Dice) Shuffled(n int) []int {
	table := make([]int, n)
	for i := range table {
		k := d.Below(i + 1)
		table[i], table[k] = table[k], i+1
	}
	return table
}

// Spoil writes over a list and all of its spare room, so that it shows who shares
// any of it.
func Spoil[T byte | int | uint32](s []T) {
	s = s[:cap(s)]
	for i := range s {
		s[i] ^= 0x5A
	}
}
