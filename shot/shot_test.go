package shot_test

import (
	"bytes"
	stdcipher "crypto/cipher"
	stddes "crypto/des"
	"slices"
	"testing"

	"scrim/api"
	"scrim/cipher"
	"scrim/dice"
	"scrim/shot"
	"scrim/supply"
)

func allPads() []int { return []int{api.Pkcs7, api.Iso, api.X923} }

// eachPadded calls for each that has a padding, back or there.
func eachPadded(d *dice.Dice, tags []int, back bool, call func(x supply.Asked)) {
	supply.EachAsked(d, tags, func(x supply.Asked) {
		if x.Pad != api.None && x.Back == back {
			call(x)
		}
	})
}

// open is x without its padding.
func open(x supply.Asked) supply.Asked {
	x.Pad = api.None
	return x
}

// turned is Shot of what may be.
func turned(t *testing.T, x supply.Asked, m []byte) []byte {
	t.Helper()
	out, e := shot.Shot(x.Config, x.Key, x.IV, m)
	if e != api.OK {
		t.Fatalf("Shot of %+v, % X: %v", x, m, e)
	}
	return out
}

// refusedShot is for what Shot refuses, whatever Check says.
func refusedShot(t *testing.T, x supply.Asked, m []byte, want api.Errno) {
	t.Helper()
	if out, e := shot.Shot(x.Config, x.Key, x.IV, m); e != want || len(out) != 0 {
		t.Errorf("Shot of %+v, %d bytes: % X, %v, not %v", x, len(m), out, e, want)
	}
}

// refused is for what Check refuses, and Shot of any message with it.
func refused(t *testing.T, x supply.Asked, want api.Errno) {
	t.Helper()
	if e := shot.Check(x.Config, x.Key, x.IV); e != want {
		t.Errorf("Check of %+v: %v, not %v", x, e, want)
	}
	for _, n := range []int{0, 3, 16, 33} {
		refusedShot(t, x, make([]byte, n), want)
	}
}

// checked is for what Check lets through.
func checked(t *testing.T, x supply.Asked) {
	t.Helper()
	if e := shot.Check(x.Config, x.Key, x.IV); e != api.OK {
		t.Errorf("Check of %+v: %v", x, e)
	}
}

// check holds Shot of m against the chapter's words, and Check, which does not know m.
func check(t *testing.T, x supply.Asked, m []byte) {
	t.Helper()
	checked(t, x)
	want, e := told(t, x, m)
	if e != api.OK {
		refusedShot(t, x, m, e)
		return
	}
	if got := turned(t, x, m); !bytes.Equal(got, want) {
		t.Fatalf("Shot of %+v, % X: % X, not % X", x, m, got, want)
	}
}

// Each length that a key may have; where there is no iv, it may be nil or empty.
func TestP1501Check(t *testing.T) {
	d := dice.New(1501)
	supply.EachAsked(d, supply.AllTags(), func(x supply.Asked) {
		for _, n := range cipher.Lengths(x.Tag) {
			x.Key = d.Bytes(n)
			checked(t, x)
			if x.Mode == api.Ecb {
				checked(t, supply.Asked{Config: x.Config, Key: x.Key, IV: []byte{}})
			}
		}
	})
}

// The chapter's example among them.
func TestP1501RefusesTags(t *testing.T) {
	d := dice.New(1502)
	refused(t, supply.Asked{}, api.BadTag)
	for _, tag := range supply.Outside(api.Des, api.Rc5) {
		supply.EachAsked(d, supply.AllTags(), func(x supply.Asked) {
			x.Tag = tag
			refused(t, x, api.BadTag)
		})
	}
}

// Of other tags' lengths, too, also where the room behind would fill it up.
func TestP1501RefusesKeys(t *testing.T) {
	d := dice.New(1503)
	room := d.Bytes(100)
	supply.EachAsked(d, supply.AllTags(), func(x supply.Asked) {
		for n := range 50 {
			if !slices.Contains(cipher.Lengths(x.Tag), n) {
				x.Key = room[:n]
				refused(t, x, api.BadKey)
			}
		}
		x.Key = nil
		refused(t, x, api.BadKey)
	})
}

func TestP1501RefusesModesAndPads(t *testing.T) {
	d := dice.New(1504)
	supply.EachAsked(d, supply.AllTags(), func(x supply.Asked) {
		spoilt := x
		for _, mode := range supply.Outside(api.Ecb, api.Cs3) {
			spoilt.Mode = mode
			refused(t, spoilt, api.BadMode)
		}
		spoilt = x
		for _, kind := range supply.Outside(api.Pkcs7, api.None) {
			spoilt.Pad = kind
			refused(t, spoilt, api.BadMode)
		}
	})
}

// Ecb and Cbc alone have paddings.
func TestP1501RefusesPadsWithModes(t *testing.T) {
	supply.EachAsked(dice.New(1505), supply.AllTags(), func(x supply.Asked) {
		for _, kind := range allPads() {
			x.Pad = kind
			if x.Mode <= api.Cbc {
				checked(t, x)
			} else {
				refused(t, x, api.BadMode)
			}
		}
	})
}

// Also where the room behind would fill it up; Ecb has none.
func TestP1501RefusesIVs(t *testing.T) {
	d := dice.New(1506)
	room := d.Bytes(60)
	supply.EachAsked(d, supply.AllTags(), func(x supply.Asked) {
		may := len(x.IV)
		for n := range 40 {
			x.IV = room[:n]
			if n == may {
				checked(t, x)
			} else {
				refused(t, x, api.BadIV)
			}
		}
		x.IV = nil
		if may > 0 {
			refused(t, x, api.BadIV)
		}
	})
}

// Of several things that may not be, the first one is told (P6).
func TestP1501RefusesInOrder(t *testing.T) {
	faults := supply.Faults()
	d := dice.New(1507)
	supply.EachAsked(d, supply.AllTags(), func(x supply.Asked) {
		for set := 1; set < 1<<len(faults); set++ {
			spoilt, want := x, api.OK
			for i, f := range slices.Backward(faults) {
				if set>>i&1 == 1 {
					f.Spoil(&spoilt)
					want = f.E
				}
			}
			refused(t, spoilt, want)
		}
	})
}

// Of each number of bytes, none too; back, what has a padding, and what has none.
func TestP1501Shot(t *testing.T) {
	d := dice.New(1508)
	supply.EachAsked(d, supply.AllTags(), func(x supply.Asked) {
		size := cipher.Size(x.Tag)
		for n := range 4*size + 3 {
			check(t, x, d.Bytes(n))
			if x.Back && x.Pad != api.None {
				check(t, x, turned(t, x.Other(), d.Bytes(n)))
			}
		}
	})
}

func TestP1501ShotOfMany(t *testing.T) {
	d := dice.New(1509)
	supply.EachAsked(d, supply.QuickTags(), func(x supply.Asked) {
		size := cipher.Size(x.Tag)
		for _, n := range []int{100 * size, 100*size + 1, 101*size - 1, 300 + d.Below(300)} {
			check(t, x, d.Bytes(n))
		}
	})
}

// A list that is none is an empty one (P2).
func TestP1501ShotOfNone(t *testing.T) {
	supply.EachAsked(dice.New(1510), supply.AllTags(), func(x supply.Asked) {
		check(t, x, nil)
		check(t, x, []byte{})
	})
}

// DES in the modes of old; of whole blocks, where they are stolen, Cs3 alone turns the
// last two about.
func TestP1501ShotAsTold(t *testing.T) {
	for _, x := range supply.OldDes() {
		checkEitherWay(t, x.Asked, x.Text, x.Hidden)
		if x.Mode != api.Cbc {
			continue
		}
		first, second, third := x.Hidden[:8], x.Hidden[8:16], x.Hidden[16:]
		x.Mode = api.Cs1
		checkEitherWay(t, x.Asked, x.Text, x.Hidden)
		x.Mode = api.Cs2
		checkEitherWay(t, x.Asked, x.Text, x.Hidden)
		x.Mode = api.Cs3
		checkEitherWay(t, x.Asked, x.Text, slices.Concat(first, third, second))
		checkEitherWay(t, x.Asked, x.Text[:16], slices.Concat(second, first))
		checkEitherWay(t, x.Asked, x.Text[:8], first)
	}
}

// checkEitherWay holds what is known from elsewhere, there and back.
func checkEitherWay(t *testing.T, x supply.Asked, m, want []byte) {
	t.Helper()
	if got := turned(t, x, m); !bytes.Equal(got, want) {
		t.Errorf("Shot of %+v, % X: %X, not %X", x, m, got, want)
	}
	if got := turned(t, x.Other(), want); !bytes.Equal(got, m) {
		t.Errorf("Shot of %+v, % X, back: %X, not %X", x, want, got, m)
	}
}

// threeDes is the language's own three of DES, in Cbc.
func threeDes(t *testing.T, x supply.Asked, b []byte) []byte {
	t.Helper()
	own, e := stddes.NewTripleDESCipher(x.Key)
	if e != nil {
		t.Fatal(e)
	}
	out := make([]byte, len(b))
	stdcipher.NewCBCEncrypter(own, x.IV).CryptBlocks(out, b)
	return out
}

func TestP1501ShotByTheLanguagesOwn(t *testing.T) {
	d := dice.New(1511)
	for n := range 50 {
		x := supply.Asked{Config: api.Config{Tag: api.Tdes, Mode: api.Cbc}, Key: d.Bytes(24), IV: d.Bytes(8)}
		m, left := d.Bytes(n), 8-n%8
		for kind, end := range map[int][]byte{
			api.Pkcs7: bytes.Repeat([]byte{byte(left)}, left),
			api.Iso:   append([]byte{128}, make([]byte, left-1)...),
			api.X923:  append(make([]byte, left-1), byte(left)),
		} {
			x.Pad = kind
			checkEitherWay(t, x, m, threeDes(t, x, slices.Concat(m, end)))
		}
		x.Pad = api.None
		if n%8 == 0 {
			checkEitherWay(t, x, m, threeDes(t, x, m))
		}
		for _, mode := range []int{api.Cs1, api.Cs2, api.Cs3} {
			if x.Mode = mode; n >= 8 {
				checkEitherWay(t, x, m, stolen(mode, 8, n, threeDes(t, x, filled(m, 8))))
			}
		}
	}
}

// Which lengths may be, number by number.
func TestP1501ShotRefusesLengths(t *testing.T) {
	d := dice.New(1512)
	supply.EachAsked(d, supply.AllTags(), func(x supply.Asked) {
		size := cipher.Size(x.Tag)
		for n := range 3*size + 2 {
			m := d.Bytes(n + size)[:n]
			if !x.MayBe(n) {
				refusedShot(t, x, m, api.BadLength)
			} else if _, e := shot.Shot(x.Config, x.Key, x.IV, m); e == api.BadLength {
				t.Errorf("Shot of %+v, %d bytes: %v", x, n, e)
			}
		}
	})
}

// Each byte at the end of a last block, ahead of it some of the same or behind it
// some noughts.
func TestP1501ShotByLastByte(t *testing.T) {
	d := dice.New(1513)
	eachPadded(d, supply.QuickTags(), true, func(x supply.Asked) {
		size := cipher.Size(x.Tag)
		for v := range 256 {
			m := d.Bytes(size * (1 + v%3))
			at := len(m) - 1 - d.Below(size)
			for i := range m[at:] {
				m[at+i] = byte(v)
			}
			check(t, x, turned(t, open(x.Other()), m))
			copy(m[at+1:], make([]byte, size))
			check(t, x, turned(t, open(x.Other()), m))
		}
	})
}

func TestP1501ShotRefusesPaddings(t *testing.T) {
	d := dice.New(1514)
	eachPadded(d, supply.AllTags(), true, func(x supply.Asked) {
		size := cipher.Size(x.Tag)
		for _, v := range []byte{0, byte(size + 1), 129, 255} {
			for blocks := range 4 {
				m := slices.Concat(d.Bytes(size*blocks), bytes.Repeat([]byte{v}, size))
				refusedShot(t, x, turned(t, open(x.Other()), m), api.BadPadding)
			}
		}
	})
}

// What looks like a padding, or like none, in a block ahead does not count.
func TestP1501ShotStripsTheLastBlockAlone(t *testing.T) {
	d := dice.New(1515)
	eachPadded(d, supply.AllTags(), true, func(x supply.Asked) {
		// In Cbc a block turns the next one, too.
		if x.Mode != api.Ecb {
			return
		}
		size := cipher.Size(x.Tag)
		for range 5 {
			m := d.Bytes(2*size + d.Below(size))
			b := turned(t, x.Other(), m)
			last := turned(t, open(x.Other()), make([]byte, size))
			refusedShot(t, x, slices.Concat(b, last), api.BadPadding)
			if got, want := turned(t, x, slices.Concat(last, b)), slices.Concat(make([]byte, size), m); !bytes.Equal(got, want) {
				t.Fatalf("Shot of %+v: % X, not % X", x, got, want)
			}
		}
	})
}

// Of bytes that are turned back with a padding just one holds (T3).
func TestP1501OneOfThree(t *testing.T) {
	d := dice.New(1516)
	eachPadded(d, supply.QuickTags(), true, func(x supply.Asked) {
		size, seen := cipher.Size(x.Tag), map[api.Errno]int{}
		for range 300 {
			b := d.Bytes(d.Below(3 * size))
			if d.Below(2) == 0 {
				b = turned(t, open(x.Other()), slices.Concat(d.Bytes(size), make([]byte, size-1), []byte{byte(d.Below(2))}))
			} else if d.Below(2) == 0 {
				b = turned(t, x.Other(), b)
			}
			out, e := shot.Shot(x.Config, x.Key, x.IV, b)
			seen[e]++
			switch e {
			case api.BadLength:
				if len(b) > 0 && len(b)%size == 0 {
					t.Fatalf("%+v: %d bytes: %v", x, len(b), e)
				}
			case api.OK:
				if all := turned(t, open(x), b); len(out) < len(b)-size || len(out) >= len(b) || !bytes.HasPrefix(all, out) {
					t.Fatalf("%+v: % X, of % X", x, out, all)
				}
			case api.BadPadding:
			default:
				t.Fatalf("%+v: %v", x, e)
			}
		}
		if len(seen) != 3 {
			t.Errorf("%+v: %v", x, seen)
		}
	})
}

// Of any message whose length may be (T2).
func TestP1502ThereAndBack(t *testing.T) {
	d := dice.New(1517)
	supply.EachAsked(d, supply.AllTags(), func(x supply.Asked) {
		// What has no padding is what it was, whichever way is first.
		if x.Back && x.Pad != api.None {
			return
		}
		size := cipher.Size(x.Tag)
		for n := range 4*size + 2 {
			if x.Mode >= api.Cs1 {
				n += size
			}
			m := fitting(t, d, x, n)
			if got := turned(t, x.Other(), turned(t, x, m)); !bytes.Equal(got, m) {
				t.Fatalf("%+v: % X is not % X", x, got, m)
			}
		}
	})
}

// Also where the message ends as a padding does.
func TestP1502ThereAndBackOfPaddings(t *testing.T) {
	d := dice.New(1518)
	eachPadded(d, supply.QuickTags(), false, func(x supply.Asked) {
		for _, v := range []byte{0, 1, 2, 8, 16, 128, 255} {
			for n := range 3*cipher.Size(x.Tag) + 1 {
				for _, m := range [][]byte{bytes.Repeat([]byte{v}, n), append(make([]byte, n), v), append([]byte{v}, make([]byte, n)...)} {
					if got := turned(t, x.Other(), turned(t, x, m)); !bytes.Equal(got, m) {
						t.Fatalf("%+v: % X is not % X", x, got, m)
					}
				}
			}
		}
	})
}

// fitting is some message of n bytes, or of a little more, that x turns; n is a
// block's bytes or more, if an end is stolen.
func fitting(t *testing.T, d *dice.Dice, x supply.Asked, n int) []byte {
	t.Helper()
	switch {
	case x.Pad != api.None && x.Back:
		return turned(t, x.Other(), d.Bytes(n))
	case x.Pad == api.None && x.Mode <= api.Cbc:
		return filled(d.Bytes(n), cipher.Size(x.Tag))
	}
	return d.Bytes(n)
}

// What is handed in is not changed, its spare room neither, and none of it is
// shared with an answer; no later call touches an answer; the same calls answer the
// same again.
func TestP2P3ShotLeavesAll(t *testing.T) {
	d := dice.New(1519)
	supply.EachAsked(d, supply.AllTags(), func(x supply.Asked) {
		size := cipher.Size(x.Tag)
		for _, n := range []int{size, size + 3, 2 * size, 3*size - 1, 4 * size} {
			m := fitting(t, d, x, n)
			want, _ := told(t, x, m)
			key, iv, room := slices.Concat(x.Key, d.Bytes(40)), slices.Concat(x.IV, d.Bytes(40)), slices.Concat(m, d.Bytes(60))
			hadKey, hadIV, had := bytes.Clone(key), bytes.Clone(iv), bytes.Clone(room)
			spare := supply.Asked{Config: x.Config, Key: key[:len(x.Key)], IV: iv[:len(x.IV)]}
			first := turned(t, spare, room[:len(m)])
			for _, c := range []api.Config{x.Config, x.Other().Config} {
				shot.Shot(c, spare.Key, spare.IV, room[:size])
				shot.Shot(c, spare.Key, spare.IV, room[size-1:])
			}
			if !bytes.Equal(first, want) {
				t.Fatalf("%+v: an answer is written over", x)
			}
			dice.Spoil(first)
			checked(t, spare)
			shot.Check(x.Config, key[:len(x.Key)+1], spare.IV)
			shot.Shot(x.Config, spare.Key, iv[:len(x.IV)+1], room[:len(m)])
			if !bytes.Equal(key, hadKey) || !bytes.Equal(iv, hadIV) || !bytes.Equal(room, had) {
				t.Fatalf("%+v: what is handed in is touched", x)
			}
			second := turned(t, spare, room[:len(m)])
			for _, b := range [][]byte{key, iv, room} {
				dice.Spoil(b)
			}
			if !bytes.Equal(second, want) {
				t.Fatalf("%+v: not the same again", x)
			}
		}
	})
}

// One list may be handed in as all three.
func TestP2ShotOfOneListThrice(t *testing.T) {
	d := dice.New(1520)
	supply.EachAsked(d, supply.AllTags(), func(x supply.Asked) {
		b := d.Bytes(3 * 16)
		x.Key, x.IV = b[:len(x.Key)], b[:len(x.IV)]
		check(t, x, b)
		x.IV = b[16 : 16+len(x.IV)]
		check(t, x, b)
	})
}

// No call hangs on those ahead of it, be they refused or not (P3, P5).
func TestP3P5CallsInAnyOrder(t *testing.T) {
	d := dice.New(1521)
	var all []supply.Asked
	supply.EachAsked(d, supply.AllTags(), func(x supply.Asked) { all = append(all, x) })
	for range 3 {
		for _, i := range d.Shuffled(len(all)) {
			x := all[i-1]
			check(t, x, d.Bytes(d.Below(70)))
			x.Mode = 0
			refused(t, x, api.BadMode)
		}
	}
}

// Any numbers, lists of any length.
func TestP1AnyData(t *testing.T) {
	d := dice.New(1522)
	for range 50000 {
		x := supply.AnyAsked(d)
		m := d.Bytes(d.Below(60))
		if e := shot.Check(x.Config, x.Key, x.IV); e != api.OK {
			refusedShot(t, x, m, e)
		} else if out, e := shot.Shot(x.Config, x.Key, x.IV, m); e != api.OK && len(out) != 0 {
			t.Fatalf("Shot of %+v: % X, %v", x, out, e)
		}
	}
}
