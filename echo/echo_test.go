package echo_test

import (
	"bytes"
	"math"
	"math/big"
	"testing"

	"scrim/dice"
	"scrim/echo"
)

const longest = 4096

// farNumbers are at the edges of an int, and of what may come round in it.
func farNumbers() []int {
	return []int{
		0, 1, 2, 3, 4, 5, 6, 7, 255, 256, 1001, 1002, 1003,
		-1, -2, -3, -4, -5, -6, -7, -255, -256, -1001, -1002, -1003,
		1 << 31, 1<<31 - 1, -1 << 31, -1<<31 - 1, 1<<53 + 1, -1<<53 - 1, 1 << 61, 3 << 61,
		math.MaxInt, math.MaxInt - 1, math.MaxInt - 2, math.MaxInt - 3,
		math.MinInt, math.MinInt + 1, math.MinInt + 2, math.MinInt + 3,
	}
}

// restBy4 is W5's rest of n - a x, by numbers that cannot overflow.
func restBy4(n, a, x int) int {
	r := new(big.Int).Mul(big.NewInt(int64(a)), big.NewInt(int64(x)))
	r.Sub(big.NewInt(int64(n)), r)
	return int(r.Mod(r, big.NewInt(4)).Int64())
}

// echoed is Echo by whole numbers: how often each of 1, i, -1, -i is added.
func echoed(t []byte, a int) complex128 {
	var times [4]int
	for x, y := range t {
		times[restBy4(int(y), a, x)]++
	}
	return complex(float64(times[0]-times[2]), float64(times[1]-times[3]))
}

// biased is Bias as the promise words it, a bit at a time.
func biased(t []byte, a, b byte) int {
	have, haveNot := 0, 0
	for x, y := range t {
		if bitsIn(x%256, a)%2 == bitsIn(int(y), b)%2 {
			have++
		} else {
			haveNot++
		}
	}
	return have - haveNot
}

// bitsIn is how many of n's lowest eight bits are set that are so in mask.
func bitsIn(n int, mask byte) int {
	count := 0
	for i := range 8 {
		if n>>i&1 == 1 && mask>>i&1 == 1 {
			count++
		}
	}
	return count
}

// isSame holds a -0 apart from a +0, as == does not.
func isSame(z, want complex128) bool {
	return math.Float64bits(real(z)) == math.Float64bits(real(want)) &&
		math.Float64bits(imag(z)) == math.Float64bits(imag(want))
}

// counted is n bytes: 0, 1, 2 .. and again from 0.
func counted(n int) []byte {
	t := make([]byte, n)
	for x := range t {
		t[x] = byte(x)
	}
	return t
}

func TestP501Turn(t *testing.T) {
	for n, want := range map[int]complex128{
		0: complex(1, 0), 1: complex(0, 1), 2: complex(-1, 0), 3: complex(0, -1), 4: complex(1, 0),
		-1: complex(0, -1), -2: complex(-1, 0), -3: complex(0, 1), -4: complex(1, 0),
		math.MaxInt: complex(0, -1), math.MinInt: complex(1, 0), math.MinInt + 1: complex(0, 1),
	} {
		if got := echo.Turn(n); !isSame(got, want) {
			t.Errorf("Turn of %d: %v, not %v", n, got, want)
		}
	}
}

func TestP501TurnOfAny(t *testing.T) {
	all := [4]complex128{complex(1, 0), complex(0, 1), complex(-1, 0), complex(0, -1)}
	d := dice.New(501)
	numbers := farNumbers()
	for n := -1000; n <= 1000; n++ {
		numbers = append(numbers, n, int(d.Next()))
	}
	for _, n := range numbers {
		if got, want := echo.Turn(n), all[restBy4(n, 0, 0)]; !isSame(got, want) {
			t.Errorf("Turn of %d: %v, not %v", n, got, want)
		}
	}
}

func TestP501Echo(t *testing.T) {
	for _, x := range []struct {
		t    []byte
		a    int
		want complex128
	}{
		{nil, 0, 0}, // the chapter's example
		{nil, 3, 0},
		{[]byte{}, 1, 0},
		{[]byte{0}, 0, 1},
		{[]byte{1}, 0, complex(0, 1)},
		{[]byte{2}, 0, complex(-1, 0)},
		{[]byte{3}, 0, complex(0, -1)},
		{[]byte{255}, 7, complex(0, -1)}, // the first x is 0, whatever a is
		{[]byte{0, 1}, 1, 2},
		{[]byte{0, 1}, -1, 0},
		{[]byte{0, 0}, 1, complex(1, -1)}, // by -a x, not a x
		{[]byte{0, 0}, 3, complex(1, 1)},
		{[]byte{0, 0}, 2, 0},
		{[]byte{0, 1, 2, 3}, 0, 0},
		{[]byte{0, 1, 2, 3}, 1, 4},
		{[]byte{0, 1, 2, 3}, 2, 0},
		{[]byte{0, 1, 2, 3}, 3, 0},
		{[]byte{2, 2, 2}, 0, complex(-3, 0)},
		{[]byte{3, 3, 3}, 4, complex(0, -3)},
	} {
		if got := echo.Echo(x.t, x.a); !isSame(got, x.want) {
			t.Errorf("Echo of %v, %d: %v, not %v", x.t, x.a, got, x.want)
		}
	}
}

// Every table of up to four bytes that are 0 to 3: no part is -0, in whatever
// order the turns come.
func TestP501EchoOfAllShort(t *testing.T) {
	for size := range 5 {
		table := make([]byte, size)
		for n := range 1 << (2 * size) {
			for x := range table {
				table[x] = byte(n >> (2 * x) & 3)
			}
			for a := -4; a <= 4; a++ {
				if got, want := echo.Echo(table, a), echoed(table, a); !isSame(got, want) {
					t.Fatalf("Echo of %v, %d: %v, not %v", table, a, got, want)
				}
			}
		}
	}
}

func TestP501EchoOfAny(t *testing.T) {
	d := dice.New(502)
	for n := range 300 {
		table := d.Bytes(n)
		for _, a := range append(farNumbers(), int(d.Next())) {
			if got, want := echo.Echo(table, a), echoed(table, a); !isSame(got, want) {
				t.Fatalf("Echo of %v, %d: %v, not %v", table, a, got, want)
			}
		}
	}
}

// Up to the greatest length, and up to the greatest sums that can be.
func TestP501EchoOfLong(t *testing.T) {
	d := dice.New(503)
	for _, n := range []int{256, 257, 1000, 4094, 4095, longest} {
		for _, table := range [][]byte{d.Bytes(n), counted(n), make([]byte, n), bytes.Repeat([]byte{3}, n)} {
			for _, a := range farNumbers() {
				if got, want := echo.Echo(table, a), echoed(table, a); !isSame(got, want) {
					t.Fatalf("Echo of %d bytes, %d: %v, not %v", n, a, got, want)
				}
			}
		}
	}
	if got := echo.Echo(counted(longest), 1); !isSame(got, longest) {
		t.Errorf("Echo of all turned alike: %v", got)
	}
	if got := echo.Echo(bytes.Repeat([]byte{2}, longest), 0); !isSame(got, complex(-longest, 0)) {
		t.Errorf("Echo of 2s: %v", got)
	}
}

func TestP501Power(t *testing.T) {
	const most = 1 << 20
	less := math.Copysign(0, -1)
	for _, x := range []struct {
		z    complex128
		want int
	}{
		{0, 0},
		{1, 1},
		{-1, 1},
		{1i, 1},
		{-1i, 1},
		{complex(3, 4), 25},
		{complex(3, -4), 25},
		{complex(-3, 4), 25},
		{complex(-3, -4), 25},
		{complex(4096, 0), 1 << 24},
		{complex(less, less), 0},
		{complex(less, 5), 25},
		{complex(5, less), 25},
		{complex(most, 0), 1 << 40},
		{complex(0, most), 1 << 40},
		{complex(most, most), 1 << 41},
		{complex(-most, -most), 1 << 41},
		{complex(most, 1), 1<<40 + 1},
		{complex(most-1, -1), (most-1)*(most-1) + 1},
		{complex(most-1, 1-most), 2 * (most - 1) * (most - 1)},
	} {
		if got := echo.Power(x.z); got != x.want {
			t.Errorf("Power of %v: %d, not %d", x.z, got, x.want)
		}
	}
	d := dice.New(504)
	for range 5000 {
		re, im := d.Below(2*most+1)-most, d.Below(2*most+1)-most
		if got := echo.Power(complex(float64(re), float64(im))); got != re*re+im*im {
			t.Fatalf("Power of %d and %d: %d", re, im, got)
		}
	}
}

// A part that is out of bounds, or not whole, is refused, not clamped (P9), and
// the call ends (P1).
func TestP501PowerRefuses(t *testing.T) {
	const most = 1 << 20
	bad := []float64{
		0.5, -0.5, 1.25, most - 0.5, math.SmallestNonzeroFloat64, -math.SmallestNonzeroFloat64,
		most + 0.5, most + 1, -most - 1, 1 << 31, -1 << 31, 1 << 32, 1 << 53, 1 << 63, -1 << 63, 1 << 64,
		math.MaxFloat64, -math.MaxFloat64, math.Inf(1), math.Inf(-1), math.NaN(),
	}
	for _, f := range bad {
		for _, other := range append([]float64{0, 1, -3, most}, bad...) {
			for _, z := range []complex128{complex(f, other), complex(other, f)} {
				if got := echo.Power(z); got != 0 {
					t.Errorf("Power of %v: %d", z, got)
				}
			}
		}
	}
}

func TestP501Bias(t *testing.T) {
	for _, x := range []struct {
		t    []byte
		a, b byte
		want int
	}{
		{nil, 0, 0, 0},
		{[]byte{}, 255, 255, 0},
		{[]byte{0}, 255, 255, 1},
		{[]byte{1}, 255, 255, -1},
		{[]byte{1}, 255, 254, 1},
		{[]byte{3}, 255, 255, 1}, // two bits are as many as none, by their rest by 2
		{[]byte{0, 1, 2, 3}, 1, 1, 4},
		{[]byte{1, 0, 3, 2}, 1, 1, -4},
		{[]byte{0, 1, 2, 3}, 1, 2, 0},
		{[]byte{0, 0, 1, 1}, 2, 1, 4}, // a is for x, b for t[x]
		{[]byte{0, 0, 1, 1}, 1, 2, 0},
		{[]byte{0, 1, 1, 0}, 3, 1, 4},
		{[]byte{7, 7, 7}, 0, 255, -3},
		{[]byte{7, 3, 1}, 0, 7, -1},
		{[]byte{7, 3, 1, 200}, 0, 0, 4},
		{[]byte{128, 128}, 0, 128, -2},
	} {
		if got := echo.Bias(x.t, x.a, x.b); got != x.want {
			t.Errorf("Bias of %v, %X, %X: %d, not %d", x.t, x.a, x.b, got, x.want)
		}
	}
}

// Each pair of masks: of any table, and of one that has each byte at its place,
// where but a mask of its own is alike.
func TestP501BiasOfAllMasks(t *testing.T) {
	d := dice.New(505)
	table := d.Bytes(19)
	for a := range 256 {
		for b := range 256 {
			if got, want := echo.Bias(table, byte(a), byte(b)), biased(table, byte(a), byte(b)); got != want {
				t.Fatalf("Bias of %v, %X, %X: %d, not %d", table, a, b, got, want)
			}
		}
	}
	all := counted(256)
	for a := range 256 {
		for b := range 256 {
			want := 0
			if a == b {
				want = 256
			}
			if got := echo.Bias(all, byte(a), byte(b)); got != want {
				t.Fatalf("Bias of all bytes, %X, %X: %d, not %d", a, b, got, want)
			}
		}
	}
}

// Of an x above 255 the lowest eight bits count, up to the greatest length.
func TestP501BiasOfLong(t *testing.T) {
	d := dice.New(506)
	for _, n := range []int{255, 256, 257, 300, 511, 512, 513, 4095, longest} {
		if got := echo.Bias(counted(n), 0xA5, 0xA5); got != n {
			t.Errorf("Bias of %d bytes counted: %d", n, got)
		}
		for range 50 {
			table, a, b := d.Bytes(n), byte(d.Next()), byte(d.Next())
			if got, want := echo.Bias(table, a, b), biased(table, a, b); got != want {
				t.Fatalf("Bias of %d bytes, %X, %X: %d, not %d", n, a, b, got, want)
			}
		}
	}
}

// A table that is too long is refused, not cut off (P9): 0.
func TestP501LongerIsRefused(t *testing.T) {
	for _, n := range []int{longest + 1, longest + 2, 2 * longest, 1 << 16} {
		table := make([]byte, n)
		for _, a := range []int{0, 1, 2, 3, -1, math.MinInt} {
			if got := echo.Echo(table, a); !isSame(got, 0) {
				t.Errorf("Echo of %d bytes, %d: %v", n, a, got)
			}
		}
		if got := echo.Bias(table, 0, 0); got != 0 {
			t.Errorf("Bias of %d bytes: %d", n, got)
		}
	}
}

// Only what is there counts, not the room behind it.
func TestP501RoomBehindTheTable(t *testing.T) {
	room := make([]byte, 2*longest)
	if got := echo.Echo(room[:3], 0); !isSame(got, 3) {
		t.Errorf("Echo of 3 bytes with room for more: %v", got)
	}
	if got := echo.Bias(room[:3], 0, 1); got != 3 {
		t.Errorf("Bias of 3 bytes with room for more: %d", got)
	}
}

func TestP502FourTimesThePowersOfTheParts(t *testing.T) {
	d := dice.New(507)
	for round := range 600 {
		n := round
		if round > 500 {
			n = longest - d.Below(50)
		}
		table := d.Bytes(n)
		all, parts := 0, 0
		for r := range 4 {
			all += echo.Power(echo.Echo(table, r))
			var sum complex128
			for x := r; x < n; x += 4 {
				sum += echo.Turn(int(table[x]))
			}
			parts += echo.Power(sum)
		}
		if all != 4*parts {
			t.Fatalf("of %d bytes: %d, not four times %d", n, all, parts)
		}
	}
}

// What is handed in stays as it was, its spare room too; the same call answers
// the same again, whatever was called between.
func TestP2P3EchoLeavesAll(t *testing.T) {
	d := dice.New(508)
	for _, n := range []int{0, 1, 4, 255, 256, 257, longest, longest + 1} {
		room := d.Bytes(n + 9)
		was := bytes.Clone(room)
		type told struct {
			echo complex128
			bias int
		}
		ask := func() (all [20]told) {
			for a := range all {
				all[a] = told{echo.Echo(room[:n], a-9), echo.Bias(room[:n], byte(a), byte(7*a))}
			}
			return all
		}
		first := ask()
		echo.Echo(d.Bytes(30), 1)
		echo.Bias(d.Bytes(30), 3, 5)
		if ask() != first {
			t.Errorf("of %d bytes: not the same again", n)
		}
		if !bytes.Equal(room, was) {
			t.Errorf("of %d bytes: what is handed in is touched", n)
		}
	}
}
