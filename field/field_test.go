package field_test

import (
	"math"
	"testing"

	"scrim/dice"
	"scrim/field"
)

// product is Mul as the promise words it: first the whole product, then its
// rest by mod, from the highest power of x down.
func product(a, b byte, mod int) byte {
	all := 0
	for i := range 8 {
		all ^= int(b>>i&1) * int(a) << i
	}
	for i := 14; i >= 8; i-- {
		if all>>i&1 == 1 {
			all ^= mod << (i - 8)
		}
	}
	return byte(all)
}

// noMods are numbers that mod may not be, at the edges and far from them.
func noMods() []int {
	return []int{255, 512, 0, 1, -1, 27, 128, -283, 283 + 512, 283 + 1<<32, math.MinInt, math.MaxInt}
}

// noPows are numbers that n may not be.
func noPows() []int {
	return []int{-1, -2, -255, -1_000_000, 1_000_001, 1 << 20, 1 << 32, math.MinInt, math.MinInt + 1, math.MaxInt}
}

func TestP301Mul(t *testing.T) {
	for _, x := range []struct {
		a, b byte
		mod  int
		want byte
	}{
		{2, 128, 283, 27}, // the chapter's example
		{0, 0, 283, 0},
		{1, 1, 283, 1},
		{0x53, 0xCA, 283, 0x01},
		{0x57, 0x83, 283, 0xC1},
		{2, 0x80, 256, 0},
		{2, 0x80, 257, 1},
		{2, 0x80, 511, 0xFF},
		{0x80, 0x80, 256, 0},
		{3, 3, 256, 5}, // by xor: x + x is none
		{0xFF, 1, 511, 0xFF},
	} {
		if got := field.Mul(x.a, x.b, x.mod); got != x.want {
			t.Errorf("Mul of %X, %X by %d: %X, not %X", x.a, x.b, x.mod, got, x.want)
		}
	}
}

// Every pair of bytes, by every mod.
func TestP301MulOfAll(t *testing.T) {
	for mod := 256; mod <= 511; mod++ {
		for a := range 256 {
			for b := range 256 {
				got, want := field.Mul(byte(a), byte(b), mod), product(byte(a), byte(b), mod)
				if got != want {
					t.Fatalf("Mul of %X, %X by %d: %X, not %X", a, b, mod, got, want)
				}
			}
		}
	}
}

func TestP301Pow(t *testing.T) {
	for _, x := range []struct {
		a    byte
		n    int
		mod  int
		want byte
	}{
		{0, 0, 283, 1}, // of none: 1, of no noughts too
		{0, 1, 283, 0},
		{0, 1_000_000, 283, 0},
		{1, 1_000_000, 283, 1},
		{0xA7, 0, 256, 1},
		{0xA7, 1, 256, 0xA7},
		{2, 7, 256, 0x80},
		{2, 8, 256, 0},
		{2, 8, 257, 1},
		{2, 8, 283, 0x1B},
		{3, 255, 283, 1},
		{3, 256, 283, 3},
		{3, 254, 283, 0xF6},
	} {
		if got := field.Pow(x.a, x.n, x.mod); got != x.want {
			t.Errorf("Pow of %X, %d by %d: %X, not %X", x.a, x.n, x.mod, got, x.want)
		}
	}
}

// Each byte, by each mod, factor by factor.
func TestP301PowFactorByFactor(t *testing.T) {
	for mod := 256; mod <= 511; mod++ {
		for a := range 256 {
			want := byte(1)
			for n := range 20 {
				if got := field.Pow(byte(a), n, mod); got != want {
					t.Fatalf("Pow of %X, %d by %d: %X, not %X", a, n, mod, got, want)
				}
				want = product(want, byte(a), mod)
			}
		}
	}
}

func TestP301PowOfMany(t *testing.T) {
	d := dice.New(301)
	mods := []int{256, 257, 283, 333, 361, 511, 256 + d.Below(256)}
	for _, mod := range mods {
		a, want := byte(d.Next()), byte(1)
		for n := range 1_000_001 {
			if n%997 == 0 || n > 999_990 || n&(n-1) == 0 || n&(n+1) == 0 {
				if got := field.Pow(a, n, mod); got != want {
					t.Fatalf("Pow of %X, %d by %d: %X, not %X", a, n, mod, got, want)
				}
			}
			want = product(want, a, mod)
		}
	}
}

func TestP301Inv(t *testing.T) {
	for _, x := range []struct {
		a    byte
		mod  int
		want byte
	}{
		{0, 283, 0},
		{1, 283, 1},
		{0x53, 283, 0xCA},
		{2, 283, 0x8D},
		{0, 256, 0},
		{1, 256, 1},
		{2, 256, 0}, // x is a part of x^8
		{3, 256, 0xFF},
		{2, 257, 0x80},
		{3, 257, 0}, // x + 1 is a part of x^8 + 1
		{0xFF, 256, 3},
		{0, 511, 0},
		{1, 511, 1},
		{2, 511, 0xFF},
	} {
		if got := field.Inv(x.a, x.mod); got != x.want {
			t.Errorf("Inv of %X by %d: %X, not %X", x.a, x.mod, got, x.want)
		}
	}
}

// Each byte, by each mod: the least one that fits, or 0 where none does.
func TestP301InvOfAll(t *testing.T) {
	for mod := 256; mod <= 511; mod++ {
		for a := range 256 {
			want := 0
			for x := 255; x > 0; x-- {
				if product(byte(a), byte(x), mod) == 1 {
					want = x
				}
			}
			if got := field.Inv(byte(a), mod); got != byte(want) {
				t.Fatalf("Inv of %X by %d: %X, not %X", a, mod, got, want)
			}
		}
	}
}

// A mod that may not be is refused, not clamped (P9), and the call ends (P1).
func TestP301RefusesMods(t *testing.T) {
	for _, mod := range noMods() {
		for _, a := range []byte{0, 1, 2, 3, 0x80, 0xFF} {
			if got := field.Mul(a, 1, mod); got != 0 {
				t.Errorf("Mul of %X, 1 by %d: %X", a, mod, got)
			}
			if got := field.Mul(a, 0xFF, mod); got != 0 {
				t.Errorf("Mul of %X, FF by %d: %X", a, mod, got)
			}
			for _, n := range []int{0, 1, 2, 1_000_000} {
				if got := field.Pow(a, n, mod); got != 0 {
					t.Errorf("Pow of %X, %d by %d: %X", a, n, mod, got)
				}
			}
			if got := field.Inv(a, mod); got != 0 {
				t.Errorf("Inv of %X by %d: %X", a, mod, got)
			}
		}
	}
}

// So is a number of factors that may not be.
func TestP301PowRefuses(t *testing.T) {
	for _, n := range noPows() {
		for _, mod := range append(noMods(), 256, 283, 511) {
			for _, a := range []byte{0, 1, 2, 3, 0xFF} {
				if got := field.Pow(a, n, mod); got != 0 {
					t.Errorf("Pow of %X, %d by %d: %X", a, n, mod, got)
				}
			}
		}
	}
}

// The same call answers the same again, whatever was called between.
func TestP3FieldAnswersTheSame(t *testing.T) {
	type told struct{ mul, pow, inv byte }
	ask := func(seed uint64) (all [200]told) {
		d := dice.New(seed)
		for i := range all {
			a, b, mod := byte(d.Next()), byte(d.Next()), 250+d.Below(268)
			all[i] = told{field.Mul(a, b, mod), field.Pow(a, d.Below(1_000_100), mod), field.Inv(b, mod)}
		}
		return all
	}
	first := ask(3)
	ask(4)
	if ask(3) != first {
		t.Error("not the same again")
	}
}
