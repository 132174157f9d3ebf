package des

import "slices"

const halfKeyBits = 28

// boxes is S: a row of sixteen signs (W3) is one number, whose signs are the
// same; the highest four bits are the row's first.
var boxes = [8][4]uint64{
	{0xE4D12FB83A6C5907, 0x0F74E2D1A6CB9538, 0x41E8D62BFC973A50, 0xFC8249175B3EA06D},
	{0xF18E6B34972DC05A, 0x3D47F28EC01A69B5, 0x0E7BA4D158C6932F, 0xD8A13F42B67C05E9},
	{0xA09E63F51DC7B428, 0xD709346A285ECBF1, 0xD6498F30B12C5AE7, 0x1AD069874FE3B52C},
	{0x7DE3069A1285BC4F, 0xD8B56F03472C1AE9, 0xA690CB7DF13E5284, 0x3F06A1D8945BC72E},
	{0x2C417AB6853FD0E9, 0xEB2C47D150FA3986, 0x421BAD78F9C5630E, 0xB8C71E2D6F09A453},
	{0xC1AF92680D34E75B, 0xAF427C9561DE0B38, 0x9EF528C3704A1DB6, 0x432C95FABE17608D},
	{0x4B2EF08D3C975A61, 0xD0B7491AE35C2F86, 0x14BDC37EAF680592, 0x6BD814A7950FE23C},
	{0xD2846FB1A93E50C7, 0x1FD8A374C56B0E92, 0x7B419CE206ADF358, 0x21E74A8DFC90356B},
}

// look is what a box has for six bits: 0 to 63.
func look(box int, six uint32) uint32 {
	row, between := six>>5<<1|six&1, six>>1&15
	return uint32(boxes[box][row]>>(60-4*between)) & 15
}

// firstTable is IP.
func firstTable() []int {
	table := make([]int, 0, 64)
	for _, first := range [8]int{58, 60, 62, 64, 57, 59, 61, 63} {
		for k := range 8 {
			table = append(table, first-8*k)
		}
	}
	return table
}

// mixTable is P.
func mixTable() []int {
	return []int{
		16, 7, 20, 21, 29, 12, 28, 17, 1, 15, 23, 26, 5, 18, 31, 10,
		2, 8, 24, 14, 32, 27, 3, 9, 19, 13, 30, 6, 22, 11, 4, 25,
	}
}

// halvesTable is C1.
func halvesTable() []int {
	return slices.Concat(falling(57, 57, halfKeyBits), falling(63, 55, 24), []int{28, 20, 12, 4})
}

// falling is n numbers, each next one 8 less, or, where that is below 1, by
// rise more than the last one.
func falling(first, rise, n int) []int {
	table := make([]int, n)
	for k := range table {
		table[k] = first
		if first > 8 {
			first -= 8
		} else {
			first += rise
		}
	}
	return table
}

// choiceTable is C2.
func choiceTable() []int {
	return []int{
		14, 17, 11, 24, 1, 5, 3, 28, 15, 6, 21, 10, 23, 19, 12, 4,
		26, 8, 16, 7, 27, 20, 13, 2, 41, 52, 31, 37, 47, 55, 30, 40,
		51, 45, 33, 48, 44, 49, 39, 56, 34, 53, 46, 42, 50, 36, 29, 32,
	}
}

// turnOf is by how many bits the halves are turned for the key i, from 0 on.
func turnOf(i int) int {
	switch i {
	case 0, 1, 8, 15:
		return 1
	}
	return 2
}

func turnHalves(table []int, by int) {
	turnLeft(table[:halfKeyBits], by)
	turnLeft(table[halfKeyBits:], by)
}

func turnLeft(half []int, by int) {
	copy(half, slices.Concat(half[by:], half[:by]))
}
