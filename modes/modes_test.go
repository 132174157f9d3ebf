package modes_test

import (
	"bytes"
	stdcipher "crypto/cipher"
	stddes "crypto/des"
	"math"
	"slices"
	"testing"

	"scrim/api"
	"scrim/cipher"
	"scrim/dice"
	"scrim/modes"
	"scrim/supply"
)

func allModes() []int { return []int{api.Ecb, api.Cbc, api.Cfb8, api.Cfb, api.Ofb, api.Ctr} }

// noModes are none of this layer's, also those that a narrower number would take
// for one.
func noModes() []int {
	return []int{
		0, api.Cs1, api.Cs2, api.Cs3, 10, 11, 255, 256 + api.Ecb, 1<<16 + api.Cbc, 1<<32 + api.Ctr,
		-1, -2, -6, -7, -1 << 32, -1<<32 + api.Ofb, math.MinInt, math.MinInt + api.Cfb, math.MaxInt,
	}
}

// ivOf is a first chain that may be.
func ivOf(d *dice.Dice, c *cipher.Cipher, mode int) []byte {
	if mode == api.Ecb {
		return nil
	}
	return d.Bytes(c.Size())
}

func grainOf(c *cipher.Cipher, mode int) int {
	if mode == api.Ecb || mode == api.Cbc {
		return c.Size()
	}
	return 1
}

func made(t *testing.T, c *cipher.Cipher, mode int, back bool, iv []byte) *modes.Mode {
	t.Helper()
	m, e := modes.New(c, mode, back, iv)
	if e != api.OK || m == nil {
		t.Fatalf("New of mode %d, %v, % X: %v", mode, back, iv, e)
	}
	return m
}

// stepped is Step of what may be.
func stepped(t *testing.T, m *modes.Mode, b []byte) []byte {
	t.Helper()
	out, e := m.Step(b)
	if e != api.OK || len(out) != len(b) {
		t.Fatalf("Step of % X: % X, %v", b, out, e)
	}
	return out
}

func refused(t *testing.T, m *modes.Mode, b []byte) {
	t.Helper()
	if out, e := m.Step(b); e != api.BadLength || len(out) != 0 {
		t.Errorf("Step of %d bytes: % X, %v", len(b), out, e)
	}
}

// each calls for each mode, either way, by a cipher of each of those tags.
func each(t *testing.T, d *dice.Dice, tags []int, call func(c *cipher.Cipher, mode int, back bool)) {
	t.Helper()
	supply.Each(t, d, tags, allModes(), call)
}

func TestP1201New(t *testing.T) {
	d := dice.New(1201)
	room := d.Bytes(100)
	each(t, d, supply.AllTags(), func(c *cipher.Cipher, mode int, back bool) {
		may := c.Size()
		if mode == api.Ecb {
			may = 0
		}
		for n := range 50 {
			m, e := modes.New(c, mode, back, room[:n])
			if n == may {
				if e != api.OK || m == nil {
					t.Errorf("New of mode %d, %d bytes of %d: %v, %v", mode, n, may, m, e)
				}
			} else if e != api.BadIV || m != nil {
				t.Errorf("New of mode %d, %d bytes, not %d: %v, %v", mode, n, may, m, e)
			}
		}
		if m, e := modes.New(c, mode, back, nil); (e == api.OK) != (mode == api.Ecb) || (m != nil) != (mode == api.Ecb) {
			t.Errorf("New of mode %d, no iv: %v, %v", mode, m, e)
		}
	})
}

// A mode that is none is told ahead of an iv that may not be (P6).
func TestP1201NewRefusesModes(t *testing.T) {
	d := dice.New(1202)
	room := d.Bytes(40)
	for _, tag := range supply.AllTags() {
		c := supply.Thrown(t, d, tag)
		for _, mode := range noModes() {
			for n := range 20 {
				if m, e := modes.New(c, mode, n%2 == 0, room[:n]); e != api.BadMode || m != nil {
					t.Errorf("New of mode %d, %d bytes: %v, %v", mode, n, m, e)
				}
			}
			if m, e := modes.New(c, mode, false, nil); e != api.BadMode || m != nil {
				t.Errorf("New of mode %d, no iv: %v, %v", mode, m, e)
			}
		}
	}
}

// It stays, whatever is turned or refused between.
func TestP1201Grain(t *testing.T) {
	d := dice.New(1203)
	each(t, d, supply.AllTags(), func(c *cipher.Cipher, mode int, back bool) {
		m, want := made(t, c, mode, back, ivOf(d, c, mode)), grainOf(c, mode)
		for range 2 {
			if got := m.Grain(); got != want {
				t.Errorf("Grain of mode %d, blocks of %d: %d, not %d", mode, c.Size(), got, want)
			}
			m.Step(d.Bytes(3 * want))
			m.Step(d.Bytes(3*want + 1))
		}
	})
}

// DES in the modes of old.
func TestP1201StepAsTold(t *testing.T) {
	for _, x := range supply.OldDes() {
		checkTold(t, supply.Cipher(t, x.Tag, x.Key), x.Mode, x.IV, x.Text, x.Hidden)
	}
}

// Magma by blocks, and counting, examples that others have told, from memory.
func TestP1201StepOfMagmaAsTold(t *testing.T) {
	c := supply.Cipher(t, api.Magma, supply.Raw("FFEEDDCCBBAA99887766554433221100F0F1F2F3F4F5F6F7F8F9FAFBFCFDFEFF"))
	b := supply.Raw("92DEF06B3C130A59DB54C704F8189D204A98FB2E67A8024C8912409B17B57E41")
	checkTold(t, c, api.Ecb, nil, b, supply.Raw("2B073F0494F372A0DE70E715D3556E4811D8D9E9EACFBC1E7C68260996C67EFB"))
	checkTold(t, c, api.Ctr, supply.Raw("1234567800000000"), b,
		supply.Raw("4E98110C97B7B93C3E250D93D6E85D69136D868807B2DBEF568EB680AB52A12D"))
}

func checkTold(t *testing.T, c *cipher.Cipher, mode int, iv, b, want []byte) {
	t.Helper()
	if got := stepped(t, made(t, c, mode, false, iv), b); !bytes.Equal(got, want) {
		t.Errorf("mode %d: %X, not %X", mode, got, want)
	}
	if got := stepped(t, made(t, c, mode, true, iv), want); !bytes.Equal(got, b) {
		t.Errorf("mode %d, back: %X, not %X", mode, got, b)
	}
}

// stream is a mode of the language's own that turns bytes.
func stream(own stdcipher.Block, mode int, back bool, iv []byte) stdcipher.Stream {
	switch {
	case mode == api.Cfb && back:
		return stdcipher.NewCFBDecrypter(own, iv)
	case mode == api.Cfb:
		return stdcipher.NewCFBEncrypter(own, iv)
	case mode == api.Ofb:
		return stdcipher.NewOFB(own, iv)
	}
	return stdcipher.NewCTR(own, iv)
}

// library is what the language's own DES and modes make of b.
func library(own stdcipher.Block, mode int, back bool, iv, b []byte) []byte {
	out := make([]byte, len(b))
	switch {
	case mode == api.Cbc && back:
		stdcipher.NewCBCDecrypter(own, iv).CryptBlocks(out, b)
	case mode == api.Cbc:
		stdcipher.NewCBCEncrypter(own, iv).CryptBlocks(out, b)
	default:
		stream(own, mode, back, iv).XORKeyStream(out, b)
	}
	return out
}

func TestP1201StepByTheLanguagesOwn(t *testing.T) {
	d := dice.New(1204)
	for _, mode := range []int{api.Cbc, api.Cfb, api.Ofb, api.Ctr} {
		for _, back := range []bool{false, true} {
			for n := range 20 {
				key, iv := d.Bytes(8), d.Bytes(8)
				own, e := stddes.NewCipher(key)
				if e != nil {
					t.Fatal(e)
				}
				c := supply.Cipher(t, api.Des, key)
				b := d.Bytes(grainOf(c, mode) * (3*n + 1))
				got, want := stepped(t, made(t, c, mode, back, iv), b), library(own, mode, back, iv, b)
				if !bytes.Equal(got, want) {
					t.Fatalf("mode %d, %v, %d bytes: %X, not %X", mode, back, len(b), got, want)
				}
			}
		}
	}
}

// Of each number of grains, none too, to some blocks and a part of one.
func TestP1201Step(t *testing.T) {
	d := dice.New(1205)
	each(t, d, supply.AllTags(), func(c *cipher.Cipher, mode int, back bool) {
		grain := grainOf(c, mode)
		for n := 0; n*grain <= 4*c.Size()+3; n++ {
			iv, b := ivOf(d, c, mode), d.Bytes(n*grain)
			got, want := stepped(t, made(t, c, mode, back, iv), b), told(t, c, mode, back, iv, b)
			if !bytes.Equal(got, want) {
				t.Fatalf("mode %d, %v, %d bytes: % X, not % X", mode, back, len(b), got, want)
			}
		}
	})
}

// First chains and bytes that are one and the same through and through.
func TestP1201StepOfEdges(t *testing.T) {
	d := dice.New(1206)
	each(t, d, supply.AllTags(), func(c *cipher.Cipher, mode int, back bool) {
		for _, v := range []byte{0x00, 0x01, 0x80, 0xFF} {
			iv := bytes.Repeat([]byte{v}, len(ivOf(d, c, mode)))
			for _, w := range []byte{0x00, 0x80, 0xFF} {
				b := bytes.Repeat([]byte{w}, 3*c.Size())
				got, want := stepped(t, made(t, c, mode, back, iv), b), told(t, c, mode, back, iv, b)
				if !bytes.Equal(got, want) {
					t.Fatalf("mode %d, %v, %X by %X: % X, not % X", mode, back, w, v, got, want)
				}
			}
		}
	})
}

// The count goes over bytes, and behind the greatest one it is 0, also where a
// row's end is a step's.
func TestP1201CtrCounts(t *testing.T) {
	d := dice.New(1207)
	for _, tag := range supply.QuickTags() {
		c := supply.Thrown(t, d, tag)
		size := c.Size()
		for ones := range size + 1 {
			iv := bytes.Repeat([]byte{0xFF}, size)
			copy(iv, make([]byte, size-ones))
			for range 4 {
				b := d.Bytes(5*size + 3)
				m, want := made(t, c, api.Ctr, ones%2 == 0, iv), told(t, c, api.Ctr, false, iv, b)
				got := slices.Concat(stepped(t, m, b[:size]), stepped(t, m, b[size:]))
				if !bytes.Equal(got, want) {
					t.Fatalf("from % X on: % X, not % X", iv, got, want)
				}
				iv[size-1]--
			}
		}
	}
}

// The count goes on where a number of a byte, and of two, would end.
func TestP1201CtrCountsFar(t *testing.T) {
	c := supply.Thrown(t, dice.New(1208), api.Xtea)
	iv := supply.Raw("FFFFFFFFFFFF0000")
	got := stepped(t, made(t, c, api.Ctr, false, iv), make([]byte, 8*(1<<16+3)))
	for _, k := range []int{0, 1, 0xFF, 0x100, 0x101, 0xFFFE, 0xFFFF, 0x10000, 0x10001, 0x10002} {
		if want := supply.Turned(t, c, false, counted(iv, k)); !bytes.Equal(got[8*k:8*k+8], want) {
			t.Errorf("row %d: % X, not % X", k, got[8*k:8*k+8], want)
		}
	}
}

// Ecb, Cbc take whole blocks alone, whatever room there is behind; what is refused
// changes nothing (P5).
func TestP1201StepRefuses(t *testing.T) {
	d := dice.New(1209)
	each(t, d, supply.AllTags(), func(c *cipher.Cipher, mode int, back bool) {
		if mode != api.Ecb && mode != api.Cbc {
			return
		}
		size := c.Size()
		room, b, iv := d.Bytes(5*size), d.Bytes(4*size), ivOf(d, c, mode)
		m := made(t, c, mode, back, iv)
		var got []byte
		for at := 0; at < len(b); at += size {
			for n := range 4 * size {
				if n%size != 0 {
					refused(t, m, room[:n])
				}
			}
			got = append(got, stepped(t, m, b[at:at+size])...)
		}
		if want := told(t, c, mode, back, iv, b); !bytes.Equal(got, want) {
			t.Errorf("mode %d, %v: % X, not % X, when some is refused", mode, back, got, want)
		}
	})
}

// The chapter's example; and the next bytes are turned as if there had been none.
func TestP1201StepOfNone(t *testing.T) {
	d := dice.New(1210)
	each(t, d, supply.AllTags(), func(c *cipher.Cipher, mode int, back bool) {
		grain := grainOf(c, mode)
		iv, b := ivOf(d, c, mode), d.Bytes(3*c.Size())
		m := made(t, c, mode, back, iv)
		var got []byte
		for at := 0; at < len(b); at += grain {
			stepped(t, m, nil)
			stepped(t, m, []byte{})
			stepped(t, m, b[at:at])
			got = append(got, stepped(t, m, b[at:at+grain])...)
		}
		stepped(t, m, nil)
		if want := told(t, c, mode, back, iv, b); !bytes.Equal(got, want) {
			t.Errorf("mode %d, %v: % X, not % X", mode, back, got, want)
		}
	})
}

// No two modes are one; back is there in Ofb and Ctr alone.
func TestP1201NoTwoAreOne(t *testing.T) {
	d := dice.New(1211)
	for _, tag := range supply.QuickTags() {
		c := supply.Thrown(t, d, tag)
		iv, b := d.Bytes(c.Size()), d.Bytes(3*c.Size())
		seen := map[string]int{}
		for _, mode := range allModes() {
			first := iv
			if mode == api.Ecb {
				first = nil
			}
			there, back := made(t, c, mode, false, first), made(t, c, mode, true, first)
			seen[string(stepped(t, there, b))]++
			seen[string(stepped(t, back, b))]++
		}
		if len(seen) != 10 {
			t.Errorf("%d: %d answers, not 10", tag, len(seen))
		}
	}
}

// cut is what the parts of b, each of some grains, come to, one behind the other.
func cut(t *testing.T, d *dice.Dice, m *modes.Mode, b []byte, most int) []byte {
	t.Helper()
	var out []byte
	for len(b) > 0 {
		n := min(m.Grain()*d.Below(most+1), len(b))
		out = append(out, stepped(t, m, b[:n])...)
		b = b[n:]
	}
	return out
}

// At each place once, and at two.
func TestP1202CutAtEachPlace(t *testing.T) {
	d := dice.New(1212)
	each(t, d, supply.QuickTags(), func(c *cipher.Cipher, mode int, back bool) {
		grain := grainOf(c, mode)
		iv, b := ivOf(d, c, mode), d.Bytes(3*c.Size())
		want := stepped(t, made(t, c, mode, back, iv), b)
		for i := 0; i <= len(b); i += grain {
			for k := i; k <= len(b); k += grain {
				m := made(t, c, mode, back, iv)
				got := slices.Concat(stepped(t, m, b[:i]), stepped(t, m, b[i:k]), stepped(t, m, b[k:]))
				if !bytes.Equal(got, want) {
					t.Fatalf("mode %d, %v, cut at %d and %d: % X, not % X", mode, back, i, k, got, want)
				}
			}
		}
	})
}

// In grains, in some, in many.
func TestP1202CutInAnyWay(t *testing.T) {
	d := dice.New(1213)
	each(t, d, supply.AllTags(), func(c *cipher.Cipher, mode int, back bool) {
		iv := ivOf(d, c, mode)
		b := d.Bytes(grainOf(c, mode) * (100 + d.Below(40)))
		want := stepped(t, made(t, c, mode, back, iv), b)
		for _, most := range []int{1, 2, 7, 8, 9, 16, 17, 60} {
			if got := cut(t, d, made(t, c, mode, back, iv), b, most); !bytes.Equal(got, want) {
				t.Fatalf("mode %d, %v, in parts of up to %d: % X, not % X", mode, back, most, got, want)
			}
		}
	})
}

// What was turned, cut in any way, is turned back, cut in any other way, to what
// it was (T2), whichever way is first.
func TestP1202ThereAndBack(t *testing.T) {
	d := dice.New(1214)
	each(t, d, supply.AllTags(), func(c *cipher.Cipher, mode int, back bool) {
		for range 4 {
			iv, b := ivOf(d, c, mode), d.Bytes(grainOf(c, mode)*d.Below(50))
			first := cut(t, d, made(t, c, mode, back, iv), b, 9)
			if got := cut(t, d, made(t, c, mode, !back, iv), first, 20); !bytes.Equal(got, b) {
				t.Fatalf("mode %d, %v: % X is not % X", mode, back, got, b)
			}
		}
	})
}

// New changes no iv and keeps none: what becomes of it does not count.
func TestP2P3NewLeavesAll(t *testing.T) {
	d := dice.New(1215)
	each(t, d, supply.AllTags(), func(c *cipher.Cipher, mode int, back bool) {
		room, b := d.Bytes(60), d.Bytes(3*c.Size())
		had, n := bytes.Clone(room), len(ivOf(d, c, mode))
		m := made(t, c, mode, back, room[:n])
		modes.New(c, mode, back, room[:n+1])
		modes.New(c, 0, back, room[:n])
		stepped(t, made(t, c, mode, back, room[:n]), b)
		if !bytes.Equal(room, had) {
			t.Fatalf("mode %d, %v: what is handed in is touched", mode, back)
		}
		dice.Spoil(room)
		if got := stepped(t, m, b); !bytes.Equal(got, told(t, c, mode, back, had[:n], b)) {
			t.Fatalf("mode %d, %v: New keeps an iv", mode, back)
		}
	})
}

// Step changes nothing that it is handed and keeps none of it; who writes over an
// answer changes no later one; no later call touches an answer.
func TestP2P3StepLeavesAll(t *testing.T) {
	d := dice.New(1216)
	each(t, d, supply.AllTags(), func(c *cipher.Cipher, mode int, back bool) {
		grain, iv := grainOf(c, mode), ivOf(d, c, mode)
		m := made(t, c, mode, back, iv)
		var b, got, last, wasLast []byte
		for round := range 30 {
			n := grain * d.Below(12)
			room := d.Bytes(n + 40)
			had := bytes.Clone(room)
			out := stepped(t, m, room[:n])
			if !bytes.Equal(room, had) {
				t.Fatalf("mode %d, %v: what is handed in is touched", mode, back)
			}
			if !bytes.Equal(last, wasLast) {
				t.Fatalf("mode %d, %v: an answer is written over", mode, back)
			}
			b, got = append(b, had[:n]...), append(got, out...)
			dice.Spoil(room)
			if !bytes.Equal(out, got[len(got)-n:]) {
				t.Fatalf("mode %d, %v: an answer shares what is handed in", mode, back)
			}
			if round%3 == 0 {
				last, wasLast = out, bytes.Clone(out)
			} else {
				dice.Spoil(out)
			}
		}
		if !bytes.Equal(got, told(t, c, mode, back, iv, b)) {
			t.Fatalf("mode %d, %v: a list of others is kept", mode, back)
		}
	})
}

// Several, of one cipher or of others, in turns: they do not touch one another,
// nor does what New refuses, nor what the cipher turns between.
func TestP5P7SideBySide(t *testing.T) {
	type side struct {
		m      *modes.Mode
		b, got []byte
		want   []byte
	}
	d := dice.New(1217)
	shared := supply.Thrown(t, d, api.Xtea)
	var all []side
	each(t, d, supply.AllTags(), func(c *cipher.Cipher, mode int, back bool) {
		for _, one := range []*cipher.Cipher{c, c, shared} {
			iv, b := ivOf(d, one, mode), d.Bytes(5*one.Size())
			all = append(all, side{made(t, one, mode, back, iv), b, nil, told(t, one, mode, back, iv, b)})
		}
	})
	for i, x := range all {
		for _, y := range all[:i] {
			if x.m == y.m {
				t.Fatal("New answers one that another call has")
			}
		}
	}
	for left := len(all); left > 0; {
		left = 0
		for i := range all {
			x := &all[i]
			n := min(x.m.Grain()*d.Below(20), len(x.b))
			x.got, x.b = append(x.got, stepped(t, x.m, x.b[:n])...), x.b[n:]
			left += len(x.b)
			shared.Enc(x.want[:8])
			shared.Dec(x.want[:7])
			modes.New(shared, api.Cbc, false, nil)
		}
	}
	for i, x := range all {
		if !bytes.Equal(x.got, x.want) {
			t.Errorf("the %d-th is touched by others: % X, not % X", i+1, x.got, x.want)
		}
	}
}

// One that New has not made; and what New makes of a cipher that none has made.
func TestP1OneThatIsNotMade(t *testing.T) {
	all := []*modes.Mode{{}}
	for mode := -1; mode < 12; mode++ {
		for _, n := range []int{0, 1, 8, 16} {
			for _, back := range []bool{false, true} {
				m, e := modes.New(&cipher.Cipher{}, mode, back, make([]byte, n))
				if e == api.OK && m != nil {
					all = append(all, m)
				}
			}
		}
	}
	for _, m := range all {
		m.Grain()
		for n := range 40 {
			m.Step(make([]byte, n))
		}
	}
}
