// Package probe asks of a block cipher, for the tests of its package, what holds
// for each of them; the program itself imports it nowhere.
package probe

import (
	"bytes"
	"math/bits"
	"slices"

	"scrim/api"
	"scrim/dice"
)

// rounds is how often what is thrown is asked for.
const rounds = 20

// Tester is what of a test is needed; package testing itself is for test files.
type Tester interface {
	Helper()
	Errorf(format string, args ...any)
	Fatalf(format string, args ...any)
}

type Cipher interface {
	Block(b []byte, back bool) ([]byte, api.Errno)
}

// Turned is Block of what is a block.
func Turned(t Tester, x Cipher, b []byte, back bool) []byte {
	t.Helper()
	out, e := x.Block(b, back)
	if e != api.OK || len(out) != len(b) {
		t.Fatalf("Block of % X, %v: % X, %v", b, back, out, e)
	}
	return out
}

// ThereAndBack holds that a block comes to what it was, whichever way is first.
func ThereAndBack(t Tester, x Cipher, b []byte) {
	t.Helper()
	there, back := Turned(t, x, b, false), Turned(t, x, b, true)
	if !bytes.Equal(Turned(t, x, there, true), b) || !bytes.Equal(Turned(t, x, back, false), b) {
		t.Fatalf("% X is not what it was", b)
	}
}

// Refuses holds that Block takes no other length, also where the room behind
// would fill it up, and that a refusal changes nothing (P5).
func Refuses(t Tester, d *dice.Dice, x Cipher, size int) {
	t.Helper()
	room, b := d.Bytes(5*size), d.Bytes(size)
	there, backward := Turned(t, x, b, false), Turned(t, x, b, true)
	for _, back := range []bool{false, true} {
		for n := range 4 * size {
			if n != size {
				refused(t, x, room[:n], back)
			}
		}
		refused(t, x, nil, back)
		Turned(t, x, room[:size], back)
	}
	if !bytes.Equal(Turned(t, x, b, false), there) || !bytes.Equal(Turned(t, x, b, true), backward) {
		t.Errorf("a refusal changes what Block answers")
	}
}

func refused(t Tester, x Cipher, b []byte, back bool) {
	t.Helper()
	if got, e := x.Block(b, back); e != api.ErrArg || len(got) != 0 {
		t.Errorf("Block of %d bytes, %v: % X, %v", len(b), back, got, e)
	}
}

// LeavesAll holds that what is handed to Block stays as it was, its spare room
// too, and shares nothing with the answer; that no later call touches an answer;
// that the same call answers the same again (P2, P3).
func LeavesAll(t Tester, d *dice.Dice, x Cipher, size int) {
	t.Helper()
	for round := range rounds {
		room, back := d.Bytes(4*size), round%2 == 0
		had := bytes.Clone(room)
		first := Turned(t, x, room[:size], back)
		answer := bytes.Clone(first)
		Turned(t, x, room[size:2*size], back)
		if !bytes.Equal(first, answer) {
			t.Fatalf("Block writes over an answer of its own")
		}
		dice.Spoil(first)
		x.Block(room[:size-1], back)
		x.Block(room[:size+1], !back)
		if !bytes.Equal(room, had) {
			t.Fatalf("Block touches what is handed in")
		}
		second := Turned(t, x, room[:size], back)
		dice.Spoil(room)
		if !bytes.Equal(second, answer) {
			t.Fatalf("Block: not the same again")
		}
	}
}

// EachBitCounts holds that each bit of a key and of a block turns some half of
// the answer's bits about.
func EachBitCounts(t Tester, key, b []byte, made func(key []byte) Cipher) {
	t.Helper()
	was := Turned(t, made(key), b, false)
	for i := range 8 * (len(key) + len(b)) {
		changed := slices.Concat(key, b)
		changed[i/8] ^= 0x80 >> (i % 8)
		got := Turned(t, made(changed[:len(key)]), changed[len(key):], false)
		if !FarApart(got, was) {
			t.Errorf("bit %d of key and block: % X, and ahead of that % X", i+1, got, was)
		}
	}
}

// Known is a cipher by one of its keys: how one is made, and what it makes of a
// block, there, as is known from elsewhere.
type Known struct {
	Made  func() Cipher
	There func(b []byte) []byte
}

// SideBySide holds that several, two of each of all, are as many objects, and that
// they do not touch one another, whatever others are made between (P7).
func SideBySide(t Tester, b []byte, all []Known) {
	t.Helper()
	all = slices.Concat(all, all)
	var made []Cipher
	for _, known := range all {
		x := known.Made()
		if slices.Contains(made, x) {
			t.Errorf("New answers one that another call has")
		}
		made = append(made, x)
	}
	for range 3 {
		var there [][]byte
		for i, x := range made {
			there = append(there, Turned(t, x, b, false))
			all[i].Made()
		}
		for i, x := range made {
			if !bytes.Equal(there[i], all[i].There(b)) || !bytes.Equal(Turned(t, x, there[i], true), b) {
				t.Fatalf("one touches the other")
			}
		}
	}
}

// FarApart tells whether some half of the bits are others: over a sixth of them,
// and under five. Both have as many.
func FarApart(a, b []byte) bool {
	others := 0
	for i, x := range a {
		others += bits.OnesCount8(x ^ b[i])
	}
	all := 8 * len(a)
	return 6*others > all && 6*others < 5*all
}

// Ends holds that Block panics not, though it was not New that made x (P1, P8).
func Ends(x Cipher, size int) {
	for n := range size + 2 {
		for _, back := range []bool{false, true} {
			x.Block(make([]byte, n), back)
		}
	}
}
