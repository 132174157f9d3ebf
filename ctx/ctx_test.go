package ctx_test

import (
	"bytes"
	"runtime"
	"slices"
	"testing"

	"scrim/api"
	"scrim/cipher"
	"scrim/ctx"
	"scrim/dice"
	"scrim/shot"
	"scrim/supply"
)

// throughout is all that a context tells of those pieces.
func (p *pair) throughout(pieces [][]byte) ([]byte, api.Errno) {
	p.t.Helper()
	var all []byte
	for _, b := range pieces {
		out, _ := p.update(b)
		all = append(all, out...)
	}
	out, e := p.final()
	return append(all, out...), e
}

// want holds that an error is that one; what is answered beside it is none, as pair
// has seen.
func want(t *testing.T, call string, e, wanted api.Errno) {
	t.Helper()
	if e != wanted {
		t.Errorf("%s: %v, not %v", call, e, wanted)
	}
}

// closed holds that the calls that ask for an open one are refused, and change nothing.
func (p *pair) closed() {
	p.t.Helper()
	for range 2 {
		_, e := p.update(nil)
		want(p.t, "Update of none", e, api.BadState)
		_, e = p.update(make([]byte, 40))
		want(p.t, "Update", e, api.BadState)
		_, e = p.final()
		want(p.t, "Final", e, api.BadState)
	}
}

// Each length that a key may have; where there is no iv, it may be nil or empty.
func TestP1601Init(t *testing.T) {
	d := dice.New(1601)
	p := newPair(t)
	for _, x := range supply.SomeAsked(d, supply.AllTags()) {
		for _, n := range cipher.Lengths(x.Tag) {
			x.Key = d.Bytes(n)
			want(t, "Init", p.init(x), api.OK)
			p.throughout(supply.Cut(d, d.Bytes(d.Below(80)), 20))
		}
		if x.Mode == api.Ecb {
			x.IV = []byte{}
			want(t, "Init", p.init(x), api.OK)
			p.throughout(supply.Cut(d, d.Bytes(d.Below(80)), 20))
		}
	}
}

// In each state; what was under way, or over, is no more.
func TestP1601InitInEachState(t *testing.T) {
	d := dice.New(1602)
	all := supply.SomeAsked(d, supply.AllTags())
	for i, x := range all {
		p := opened(t, all[(i+1)%len(all)])
		p.update(d.Bytes(d.Below(50)))
		want(t, "Init, open", p.init(x), api.OK)
		p.update(d.Bytes(d.Below(50)))
		want(t, "Init of the same, open", p.init(x), api.OK)
		p.throughout(supply.Cut(d, d.Bytes(d.Below(50)), 20))
		want(t, "Init, done", p.init(x), api.OK)
		p.throughout(supply.Cut(d, d.Bytes(d.Below(50)), 20))
	}
}

// refusesInits holds that each fault, and each behind one, is told; the pair asks
// whether all stays.
func (p *pair) refusesInits(x supply.Asked) {
	p.t.Helper()
	for i, f := range supply.Faults() {
		spoilt, more := x, x
		f.Spoil(&spoilt)
		want(p.t, "Init", p.init(spoilt), f.E)
		for _, g := range supply.Faults()[i:] {
			g.Spoil(&more)
		}
		want(p.t, "Init of several faults", p.init(more), f.E)
	}
}

// In each state; what was begun goes on, and Reset begins that.
func TestP1601InitRefuses(t *testing.T) {
	d := dice.New(1603)
	all := supply.SomeAsked(d, supply.AllTags())
	for i, x := range all {
		refused := all[(i+1)%len(all)]
		p := newPair(t)
		p.refusesInits(refused)
		want(t, "Reset, new", p.reset(), api.BadState)
		p.closed()
		p.init(x)
		p.refusesInits(refused)
		for _, b := range supply.Cut(d, d.Bytes(50), 30) {
			p.update(b)
			p.refusesInits(refused)
		}
		p.final()
		p.refusesInits(refused)
		p.closed()
		p.reset()
		p.refusesInits(refused)
		p.throughout(supply.Cut(d, d.Bytes(50), 20))
	}
}

// Modes and paddings that go together with no others, and an iv for each mode but Ecb.
func TestP1601InitRefusesWhatCheckRefuses(t *testing.T) {
	d := dice.New(1604)
	p := opened(t, supply.ThrownAsked(d, api.Config{Tag: api.Xtea, Mode: api.Cs3, Pad: api.None}))
	refused := map[api.Errno]int{}
	for range 20000 {
		refused[p.init(supply.AnyAsked(d))]++
	}
	for _, e := range []api.Errno{api.OK, api.BadTag, api.BadKey, api.BadMode, api.BadIV} {
		if refused[e] == 0 {
			t.Errorf("%v was never answered", e)
		}
	}
}

func TestP1601ResetRefusesNewOnes(t *testing.T) {
	p := newPair(t)
	for range 3 {
		want(t, "Reset, new", p.reset(), api.BadState)
		p.closed()
	}
}

// In each state but new, whatever was held, and however it ended.
func TestP1601Reset(t *testing.T) {
	d := dice.New(1605)
	for _, x := range supply.SomeAsked(d, supply.AllTags()) {
		p := opened(t, x)
		m := d.Bytes(70)
		want(t, "Reset, at the beginning", p.reset(), api.OK)
		for n := 0; n < len(m); n += 1 + d.Below(10) {
			p.update(m[:n])
			want(t, "Reset, open", p.reset(), api.OK)
			p.throughout([][]byte{m[:n/2], m[n/2 : n]})
			want(t, "Reset, done", p.reset(), api.OK)
		}
		want(t, "Reset again", p.reset(), api.OK)
		p.throughout(supply.Cut(d, m, 20))
	}
}

// It is the Init that was OK last, not the one ahead of that, nor one refused since.
func TestP1601ResetOfTheLastInit(t *testing.T) {
	d := dice.New(1606)
	p := newPair(t)
	for _, x := range supply.SomeAsked(d, supply.AllTags()) {
		p.init(x)
		p.refusesInits(supply.ThrownAsked(d, x.Config))
		p.update(d.Bytes(d.Below(50)))
		p.reset()
		p.throughout(supply.Cut(d, d.Bytes(d.Below(50)), 20))
		p.reset()
		p.throughout(supply.Cut(d, d.Bytes(d.Below(50)), 20))
	}
}

// Number by number, byte by byte.
func TestP1601Held(t *testing.T) {
	d := dice.New(1607)
	supply.EachAsked(d, supply.AllTags(), func(x supply.Asked) {
		size := cipher.Size(x.Tag)
		c := ctx.New()
		if c.Held() != 0 {
			t.Errorf("%d held, new", c.Held())
		}
		c.Init(x.Config, x.Key, x.IV)
		for n := range 6 * size {
			want := n % size
			switch {
			case x.Mode >= api.Cs1 && n > 2*size:
				want = size + 1 + (n-1)%size
			case x.Mode >= api.Cs1:
				want = n
			case x.Mode >= api.Cfb8:
				want = 0
			case x.Pad != api.None && x.Back && n > 0:
				want = 1 + (n-1)%size
			}
			if got := c.Held(); got != want || c.Held() != got {
				t.Fatalf("%+v: %d held of %d, not %d", x, got, n, want)
			}
			c.Update(d.Bytes(1))
		}
		c.Final()
		if c.Held() != 0 {
			t.Errorf("%+v: %d held, done", x, c.Held())
		}
	})
}

// Each length ahead of, and in, one piece.
func TestP1602Update(t *testing.T) {
	d := dice.New(1608)
	supply.EachAsked(d, supply.QuickTags(), func(x supply.Asked) {
		size := cipher.Size(x.Tag)
		p := opened(t, x)
		for ahead := range 3*size + 1 {
			for _, n := range []int{0, 1, size - 1, size, size + 1, 2*size - 1, 2 * size, 2*size + 1, 3 * size} {
				p.reset()
				p.update(d.Bytes(ahead))
				p.update(d.Bytes(n))
			}
		}
	})
}

// None, between, tells nothing, and changes nothing.
func TestP1602UpdateByteByByte(t *testing.T) {
	d := dice.New(1610)
	supply.EachAsked(d, supply.AllTags(), func(x supply.Asked) {
		p := opened(t, x)
		for range 4 * cipher.Size(x.Tag) {
			for _, none := range [][]byte{nil, {}} {
				if out, e := p.update(none); len(out) != 0 || e != api.OK {
					t.Errorf("%+v: % X, %v", x, out, e)
				}
			}
			p.update(d.Bytes(1))
		}
		p.final()
	})
}

func TestP1602UpdateOfMany(t *testing.T) {
	d := dice.New(1611)
	supply.EachAsked(d, supply.QuickTags(), func(x supply.Asked) {
		p := opened(t, x)
		for range 5 {
			p.update(d.Bytes(300 + d.Below(300)))
		}
		p.update(d.Bytes(100 * cipher.Size(x.Tag)))
		p.final()
	})
}

// A long piece is not kept for the sake of its end (T5).
func TestP1602HoldsNoMoreThanItMust(t *testing.T) {
	d := dice.New(1626)
	const piece, many = 1 << 16, 32
	for _, c := range []api.Config{
		{Tag: api.Xtea, Mode: api.Cbc, Pad: api.None},
		{Tag: api.Xtea, Mode: api.Ecb, Pad: api.Iso, Back: true},
		{Tag: api.Xtea, Mode: api.Cs1, Pad: api.None},
		{Tag: api.Xtea, Mode: api.Cs3, Pad: api.None, Back: true},
	} {
		x := supply.ThrownAsked(d, c)
		var all []*ctx.Ctx
		before := heap()
		for range many {
			one := ctx.New()
			one.Init(x.Config, x.Key, x.IV)
			one.Update(make([]byte, piece+3))
			all = append(all, one)
		}
		if after := heap(); after > before+many*piece/4 {
			t.Errorf("%+v: %d bytes more are kept", c, after-before)
		}
		runtime.KeepAlive(all)
	}
}

// heap is how many bytes are in use.
func heap() uint64 {
	var m runtime.MemStats
	runtime.GC()
	runtime.ReadMemStats(&m)
	return m.HeapAlloc
}

// Where it is new, or done, whether the end was refused or not.
func TestP1602P1603RefuseWhereNotOpen(t *testing.T) {
	d := dice.New(1612)
	newPair(t).closed()
	supply.EachAsked(d, supply.AllTags(), func(x supply.Asked) {
		p := opened(t, x)
		for n := range 3 * cipher.Size(x.Tag) {
			p.update(d.Bytes(n))
			p.final()
			p.closed()
			p.reset()
		}
	})
}

// The chapter's example.
func TestP1603FinalOfANewOne(t *testing.T) {
	if out, e := ctx.New().Final(); e != api.BadState || len(out) != 0 {
		t.Errorf("% X, %v", out, e)
	}
}

// Of each length; what has a padding, too.
func TestP1603Final(t *testing.T) {
	d := dice.New(1613)
	supply.EachAsked(d, supply.AllTags(), func(x supply.Asked) {
		size := cipher.Size(x.Tag)
		p := opened(t, x)
		for n := range 3*size + 2 {
			m := d.Bytes(n)
			p.throughout(supply.Cut(d, m, 2*size))
			p.reset()
			hidden, e := shot.Shot(x.Other().Config, x.Key, x.IV, m)
			if e != api.OK {
				continue
			}
			if _, e := p.throughout(supply.Cut(d, hidden, 2*size)); e != api.OK {
				t.Fatalf("%+v: % X: %v", x, hidden, e)
			}
			p.reset()
		}
	})
}

// Which lengths may be, number by number; it is done either way, and holds none.
func TestP1603FinalRefusesLengths(t *testing.T) {
	d := dice.New(1614)
	supply.EachAsked(d, supply.QuickTags(), func(x supply.Asked) {
		size := cipher.Size(x.Tag)
		for n := range 4 * size {
			p := opened(t, x)
			p.update(d.Bytes(n / 2))
			p.update(d.Bytes(n - n/2))
			if out, e := p.final(); x.MayBe(n) == (e == api.BadLength) || e != api.OK && len(out) != 0 {
				t.Errorf("%+v: %d bytes: % X, %v", x, n, out, e)
			}
			p.closed()
		}
	})
}

// What was told ahead of it stays told, and it is done.
func TestP1603FinalRefusesPaddings(t *testing.T) {
	d := dice.New(1615)
	supply.EachAsked(d, supply.AllTags(), func(x supply.Asked) {
		if x.Pad == api.None || !x.Back {
			return
		}
		size := cipher.Size(x.Tag)
		open := x.Other()
		open.Pad = api.None
		for _, v := range []byte{0, byte(size + 1), 129, 255} {
			for blocks := range 4 {
				m := slices.Concat(d.Bytes(size*blocks), bytes.Repeat([]byte{v}, size))
				hidden, _ := shot.Shot(open.Config, x.Key, x.IV, m)
				p := opened(t, x)
				all, e := p.throughout(supply.Cut(d, hidden, 2*size))
				if want(t, "Final", e, api.BadPadding); !bytes.Equal(all, m[:size*blocks]) {
					t.Errorf("%+v: % X, of % X", x, all, m)
				}
				p.closed()
				p.reset()
				_, e = p.throughout([][]byte{hidden[size:]})
				if blocks == 0 {
					want(t, "Final", e, api.BadLength)
				}
			}
		}
	})
}

// It tells what is held, however little was told ahead.
func TestP1603FinalOfOldDes(t *testing.T) {
	for _, x := range supply.OldDes() {
		for n := range len(x.Text) + 1 {
			p := opened(t, x.Asked)
			if all, e := p.throughout([][]byte{x.Text[:n], x.Text[n:]}); e != api.OK || !bytes.Equal(all, x.Hidden) {
				t.Errorf("%+v: %X, %v, not %X", x.Asked, all, e, x.Hidden)
			}
			p.init(x.Asked.Other())
			if all, e := p.throughout([][]byte{x.Hidden[:n], x.Hidden[n:]}); e != api.OK || !bytes.Equal(all, x.Text) {
				t.Errorf("%+v: %X, %v, not %X", x.Asked, all, e, x.Text)
			}
		}
	}
}

// All that is told is Shot of all that was given, or its error; what is told ahead of
// an error is the front of what the mode makes (T1), as told.update has it.
func TestP1604HoweverItIsCut(t *testing.T) {
	d := dice.New(1616)
	for _, x := range supply.SomeAsked(d, supply.AllTags()) {
		size := cipher.Size(x.Tag)
		for range 4 {
			m := d.Bytes(d.Below(7 * size))
			if d.Below(2) == 0 {
				m = d.Bytes(size * d.Below(7))
			}
			if d.Below(2) == 0 {
				if hidden, e := shot.Shot(x.Other().Config, x.Key, x.IV, m); e == api.OK {
					m = hidden
				}
			}
			whole, wanted := shot.Shot(x.Config, x.Key, x.IV, m)
			for _, most := range []int{1, size - 1, size, size + 1, 3 * size, 7 * size} {
				all, e := opened(t, x).throughout(supply.Cut(d, m, most))
				if want(t, "Final", e, wanted); e == api.OK && !bytes.Equal(all, whole) {
					t.Fatalf("%+v: % X: % X, not % X", x, m, all, whole)
				}
			}
		}
	}
}

// Cut in any way, back cut in any other (T2).
func TestP1604ThereAndBack(t *testing.T) {
	d := dice.New(1617)
	for _, x := range supply.SomeAsked(d, supply.AllTags()) {
		if x.Back {
			continue
		}
		size := cipher.Size(x.Tag)
		for n := range 4 * size {
			switch {
			case x.Mode >= api.Cs1:
				n += size
			case x.Mode <= api.Cbc && x.Pad == api.None:
				n -= n % size
			}
			m := d.Bytes(n)
			p := opened(t, x)
			hidden, e := p.throughout(supply.Cut(d, m, 2*size))
			want(t, "Final, there", e, api.OK)
			p.init(x.Other())
			again, e := p.throughout(supply.Cut(d, hidden, 2*size))
			if want(t, "Final, back", e, api.OK); !bytes.Equal(again, m) {
				t.Fatalf("%+v: % X is not % X", x, again, m)
			}
		}
	}
}

// call is one of the four, of something that may be or may not.
func (p *pair) call(d *dice.Dice, all []supply.Asked) {
	p.t.Helper()
	switch d.Below(12) {
	case 0:
		p.init(all[d.Below(len(all))])
	case 1:
		x := all[d.Below(len(all))]
		supply.Faults()[d.Below(5)].Spoil(&x)
		p.init(x)
	case 2:
		p.final()
	case 3:
		p.reset()
	default:
		p.update(d.Bytes(d.Below(40)))
	}
}

// Calls in any order; one that may not be then changes nothing; no more than 2 b
// bytes are held (T5, P5).
func TestP1601ToP1604CallsInAnyOrder(t *testing.T) {
	d := dice.New(1618)
	all := supply.SomeAsked(d, supply.AllTags())
	for range 50 {
		p := newPair(t)
		for range 200 {
			p.call(d, all)
			if p.w.state != stateNew && p.c.Held() > 2*p.w.size() {
				t.Fatalf("%+v: %d held", p.w.x, p.c.Held())
			}
		}
	}
}

// Several, in any order, some by the same key, do not touch one another (P7).
func TestP5P7SideBySide(t *testing.T) {
	d := dice.New(1619)
	for range 5 {
		all := supply.SomeAsked(d, supply.AllTags())[:10]
		var pairs []*pair
		for range 10 {
			pairs = append(pairs, newPair(t))
		}
		for range 1500 {
			pairs[d.Below(len(pairs))].call(d, all)
		}
	}
}

func TestP7NewAnswersOneOfItsOwn(t *testing.T) {
	var seen []*ctx.Ctx
	for range 100 {
		c := ctx.New()
		if c == nil || slices.Contains(seen, c) {
			t.Fatalf("New answers one that another call has")
		}
		seen = append(seen, c)
	}
}

// What is handed in is not changed, its spare room neither, and not kept.
func TestP2LeavesAll(t *testing.T) {
	d := dice.New(1620)
	for _, x := range supply.SomeAsked(d, supply.AllTags()) {
		key, iv := slices.Concat(x.Key, d.Bytes(40)), slices.Concat(x.IV, d.Bytes(40))
		hadKey, hadIV := bytes.Clone(key), bytes.Clone(iv)
		p := opened(t, supply.Asked{Config: x.Config, Key: key[:len(x.Key)], IV: iv[:len(x.IV)]})
		p.refusesInits(supply.Asked{Config: x.Config, Key: key[:len(x.Key)], IV: iv[:len(x.IV)]})
		for range 2 {
			for range 4 {
				room := d.Bytes(200)
				had := bytes.Clone(room)
				out, _ := p.update(room[:d.Below(50)])
				dice.Spoil(out)
				if !bytes.Equal(room, had) {
					t.Fatalf("%+v: Update touches what is handed in", x)
				}
				dice.Spoil(room)
			}
			out, _ := p.final()
			dice.Spoil(out)
			if !bytes.Equal(key, hadKey) || !bytes.Equal(iv, hadIV) {
				t.Fatalf("%+v: key or iv is touched", x)
			}
			p.reset()
		}
		dice.Spoil(key)
		dice.Spoil(iv)
		p.throughout(supply.Cut(d, d.Bytes(100), 30))
		p.reset()
		p.throughout(supply.Cut(d, d.Bytes(100), 30))
	}
}

// No later call touches an answer, and none shares with another one.
func TestP2AnswersStay(t *testing.T) {
	d := dice.New(1621)
	for _, x := range supply.SomeAsked(d, supply.AllTags()) {
		p := opened(t, x)
		var answers, had [][]byte
		for range 3 {
			for range 6 {
				out, _ := p.update(d.Bytes(d.Below(50)))
				answers, had = append(answers, out), append(had, bytes.Clone(out))
			}
			out, _ := p.final()
			answers, had = append(answers, out), append(had, bytes.Clone(out))
			p.reset()
		}
		for i, out := range answers {
			if !bytes.Equal(out, had[i]) {
				t.Fatalf("%+v: an answer is written over", x)
			}
			dice.Spoil(out)
		}
		p.throughout(supply.Cut(d, d.Bytes(100), 30))
	}
}

// One list may be handed in as all three, and again.
func TestP2OneListThrice(t *testing.T) {
	d := dice.New(1622)
	for _, x := range supply.SomeAsked(d, supply.AllTags()) {
		x, b := x.OfOneList(d)
		had := bytes.Clone(b)
		p := opened(t, x)
		p.throughout([][]byte{b, b, b[1:], b})
		if !bytes.Equal(b, had) {
			t.Fatalf("%+v: what is handed in is touched", x)
		}
	}
}

// The same calls answer the same, of another context and of the same behind Reset.
func TestP3TheSameAgain(t *testing.T) {
	d := dice.New(1623)
	for _, x := range supply.SomeAsked(d, supply.AllTags()) {
		pieces := supply.Cut(d, d.Bytes(90), 30)
		p, q := opened(t, x), opened(t, x)
		first, e := p.throughout(pieces)
		for range 3 {
			p.reset()
			for _, r := range []*pair{p, q} {
				if again, f := r.throughout(pieces); f != e || !bytes.Equal(again, first) {
					t.Fatalf("%+v: % X, %v, and % X, %v", x, first, e, again, f)
				}
			}
			q.init(x)
		}
	}
}

// One that New has not made is as new as one that it has made.
func TestP1OneThatIsNotMade(t *testing.T) {
	d := dice.New(1624)
	all := supply.SomeAsked(d, supply.QuickTags())
	for range 20 {
		p := &pair{t: t, c: &ctx.Ctx{}}
		p.closed()
		want(t, "Reset", p.reset(), api.BadState)
		for range 50 {
			p.call(d, all)
		}
	}
}

// Any numbers, lists of any length.
func TestP1AnyData(t *testing.T) {
	d := dice.New(1625)
	p := newPair(t)
	for range 10000 {
		p.init(supply.AnyAsked(d))
		p.update(d.Bytes(d.Below(30)))
		if d.Below(3) == 0 {
			p.final()
		}
		if d.Below(3) == 0 {
			p.reset()
		}
	}
}
