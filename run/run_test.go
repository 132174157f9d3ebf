package run_test

import (
	"bytes"
	"slices"
	"testing"

	"scrim/api"
	"scrim/cipher"
	"scrim/dice"
	"scrim/run"
	"scrim/shot"
	"scrim/supply"
)

func initOf(x supply.Asked) run.Call { return run.Call{Kind: 1, C: x.Config, Key: x.Key, IV: x.IV} }

func update(b []byte) run.Call { return run.Call{Kind: 2, In: b} }

func final() run.Call { return run.Call{Kind: 3} }

func reset() run.Call { return run.Call{Kind: 4} }

// updates are a call for each of those pieces.
func updates(pieces [][]byte) []run.Call {
	var l []run.Call
	for _, b := range pieces {
		l = append(l, update(b))
	}
	return l
}

// someCalls are a message by x, a call of each kind that may not be behind it, and
// another message.
func someCalls(d *dice.Dice, x supply.Asked) []run.Call {
	l := append([]run.Call{initOf(x)}, updates(supply.Cut(d, d.Bytes(70), 20))...)
	l = append(l, final(), update(d.Bytes(5)), final(), reset())
	return append(append(l, updates(supply.Cut(d, d.Bytes(48), 20))...), final())
}

// anyCall is one of any kind, or of none, of what may be or may not.
func anyCall(d *dice.Dice, all []supply.Asked) run.Call {
	x := all[d.Below(len(all))]
	switch d.Below(14) {
	case 0:
		return initOf(x)
	case 1:
		supply.Faults()[d.Below(5)].Spoil(&x)
		return initOf(x)
	case 2:
		return final()
	case 3:
		return reset()
	case 4:
		return run.Call{Kind: 5 * (d.Below(3) - 1), C: x.Config, Key: x.Key, IV: x.IV, In: d.Bytes(9)}
	}
	return update(d.Bytes(d.Below(40)))
}

func anyCalls(d *dice.Dice, all []supply.Asked, n int) []run.Call {
	var l []run.Call
	for range n {
		l = append(l, anyCall(d, all))
	}
	return l
}

// only holds that a single call answers that, and tells no bytes.
func only(t *testing.T, x run.Call, e api.Errno) {
	t.Helper()
	if got := check(t, []run.Call{x}); !alike(got[0], run.Told{E: e}) {
		t.Errorf("%+v: %+v, not %v", x, got[0], e)
	}
}

// The chapter's example.
func TestP1701RunOfNoCalls(t *testing.T) {
	for _, none := range [][]run.Call{nil, {}} {
		if got := run.Run(none); len(got) != 0 {
			t.Errorf("%+v", got)
		}
	}
}

// Each one is of a new context, whatever was called ahead of it.
func TestP1701RunOfOneCall(t *testing.T) {
	d := dice.New(1701)
	for _, x := range supply.SomeAsked(d, supply.AllTags()) {
		only(t, initOf(x), api.OK)
		for _, f := range supply.Faults() {
			spoilt := x
			f.Spoil(&spoilt)
			only(t, initOf(spoilt), f.E)
		}
		only(t, update(nil), api.BadState)
		only(t, update(d.Bytes(40)), api.BadState)
		only(t, final(), api.BadState)
		only(t, reset(), api.BadState)
		only(t, run.Call{}, api.ErrArg)
	}
}

func TestP1701Run(t *testing.T) {
	d := dice.New(1702)
	var l []run.Call
	for _, x := range supply.SomeAsked(d, supply.AllTags()) {
		check(t, someCalls(d, x))
		l = append(l, someCalls(d, x)...)
	}
	check(t, l)
}

// All that is told between two Finals is Shot of all that was given there (T1).
func TestP1701RunTellsShot(t *testing.T) {
	d := dice.New(1703)
	for _, x := range supply.SomeAsked(d, supply.AllTags()) {
		for range 4 {
			m := message(d, x)
			l := append([]run.Call{initOf(x)}, updates(supply.Cut(d, m, 25))...)
			got := check(t, append(l, final()))
			var all []byte
			for _, told := range got {
				all = append(all, told.Out...)
			}
			want, e := shot.Shot(x.Config, x.Key, x.IV, m)
			if last := got[len(l)].E; last != e || e == api.OK && !bytes.Equal(all, want) {
				t.Fatalf("%+v: % X: % X, %v, not % X, %v", x, m, all, last, want, e)
			}
		}
	}
}

// message is one that mostly may be.
func message(d *dice.Dice, x supply.Asked) []byte {
	size := cipher.Size(x.Tag)
	m := d.Bytes(d.Below(7 * size))
	if d.Below(2) == 0 {
		m = d.Bytes(size * d.Below(7))
	}
	if hidden, e := shot.Shot(x.Other().Config, x.Key, x.IV, m); e == api.OK {
		return hidden
	}
	return m
}

// Whatever stands in its other fields nothing is done, in each state: the other calls
// answer as without it.
func TestP1701RunRefusesOtherKinds(t *testing.T) {
	d := dice.New(1704)
	kinds := append(supply.Outside(1, 4), 0, 5, 6)
	for _, x := range supply.SomeAsked(d, supply.AllTags()) {
		plain := append([]run.Call{reset()}, someCalls(d, x)...)
		want := toldBy(plain)
		for _, kind := range kinds {
			var l []run.Call
			for _, call := range plain {
				l = append(l, call, run.Call{Kind: kind, C: x.Config, Key: x.Key, IV: x.IV, In: d.Bytes(20)})
			}
			for i, got := range run.Run(l) {
				wanted := want[i/2]
				if i%2 == 1 {
					wanted = run.Told{E: api.ErrArg, Held: wanted.Held}
				}
				if !alike(got, wanted) {
					t.Fatalf("call %d, of kind %d: %+v, not %+v", i, l[i].Kind, got, wanted)
				}
			}
		}
	}
}

// What stands in the fields of other kinds does not count.
func TestP1701RunTakesItsOwnFieldsAlone(t *testing.T) {
	d := dice.New(1705)
	all := supply.SomeAsked(d, supply.AllTags())
	for i, x := range all {
		y := all[(i+1)%len(all)]
		l := someCalls(d, x)
		want := toldBy(l)
		for i := range l {
			if l[i].Kind != 1 {
				l[i].C, l[i].Key, l[i].IV = y.Config, y.Key, y.IV
			}
			if l[i].Kind != 2 {
				l[i].In = d.Bytes(20)
			}
		}
		if got := run.Run(l); !slices.EqualFunc(got, want, alike) {
			t.Fatalf("%+v: %+v, not %+v", l, got, want)
		}
	}
}

// Number by number, byte by byte, also behind calls that are refused.
func TestP1701RunTellsWhatIsHeld(t *testing.T) {
	d := dice.New(1706)
	supply.EachAsked(d, supply.AllTags(), func(x supply.Asked) {
		spoilt := x
		supply.Faults()[d.Below(5)].Spoil(&spoilt)
		l := []run.Call{initOf(x), {}}
		for range 5 * cipher.Size(x.Tag) {
			l = append(l, update(d.Bytes(1)), initOf(spoilt))
		}
		got := run.Run(append(l, final()))
		for i, told := range got[:len(l)] {
			if want := heldOf(x, i/2); told.Held != want {
				t.Fatalf("%+v: call %d: %d held, not %d", x, i, told.Held, want)
			}
		}
		if behind := got[len(l)].Held; behind != 0 {
			t.Errorf("%+v: %d held, behind Final", x, behind)
		}
	})
}

// heldOf is how many are held of n bytes that came in.
func heldOf(x supply.Asked, n int) int {
	size := cipher.Size(x.Tag)
	switch {
	case n == 0 || x.Mode >= api.Cfb8 && x.Mode <= api.Ctr:
		return 0
	case x.Mode >= api.Cs1 && n <= 2*size:
		return n
	case x.Mode >= api.Cs1:
		return size + 1 + (n-1)%size
	case x.Pad != api.None && x.Back:
		return 1 + (n-1)%size
	}
	return n % size
}

// An end that is refused tells no bytes; what was told ahead of it stays told.
func TestP1701RunRefusesEnds(t *testing.T) {
	d := dice.New(1707)
	supply.EachAsked(d, supply.AllTags(), func(x supply.Asked) {
		for n := range 4 * cipher.Size(x.Tag) {
			told := check(t, []run.Call{initOf(x), update(d.Bytes(n)), final(), final(), reset()})
			end := told[2]
			if x.MayBe(n) == (end.E == api.BadLength) || end.E != api.OK && len(end.Out) != 0 || end.Held != 0 {
				t.Fatalf("%+v: %d bytes: %+v", x, n, end)
			}
			if !alike(told[3], run.Told{E: api.BadState}) || !alike(told[4], run.Told{}) {
				t.Fatalf("%+v: %d bytes: %+v", x, n, told[3:])
			}
		}
	})
}

// None of it is left for the next one.
func TestP1701RunBeginsAnew(t *testing.T) {
	d := dice.New(1708)
	for _, x := range supply.SomeAsked(d, supply.AllTags()) {
		l := someCalls(d, x)
		for n := range l {
			check(t, l[:n])
			check(t, l[n:])
			check(t, []run.Call{reset(), update(d.Bytes(20)), final()})
		}
	}
}

// No more than two blocks of the cipher at work, and it may come to that many (T5).
func TestP1702HoldsTwoBlocksAtMost(t *testing.T) {
	d := dice.New(1709)
	all := supply.SomeAsked(d, supply.AllTags())
	most := map[int]int{}
	for range 100 {
		l, size := anyCalls(d, all, 150), 0
		for i, told := range check(t, l) {
			if l[i].Kind == 1 && told.E == api.OK {
				size = cipher.Size(l[i].C.Tag)
			}
			if told.Held > 2*size || told.Held < 0 {
				t.Fatalf("call %d, of kind %d: %d held", i, l[i].Kind, told.Held)
			}
			most[size] = max(most[size], told.Held)
		}
	}
	if most[0] != 0 || most[8] != 16 || most[16] != 32 {
		t.Errorf("held at most: %v", most)
	}
}

// One that may not be then changes nothing: the others answer as without it (T5, P5).
func TestP1702RefusalsChangeNothing(t *testing.T) {
	d := dice.New(1710)
	all := supply.SomeAsked(d, supply.AllTags())
	for range 100 {
		l := anyCalls(d, all, 150)
		var allowed []run.Call
		var want []run.Told
		for i, told := range run.Run(l) {
			// An end that is refused is an end.
			if told.E == api.OK || told.E == api.BadLength || told.E == api.BadPadding {
				allowed, want = append(allowed, l[i]), append(want, told)
			}
		}
		if got := run.Run(allowed); !slices.EqualFunc(got, want, alike) {
			t.Fatalf("%+v: %+v, not %+v", allowed, got, want)
		}
	}
}

// Of each length, in each kind of pieces.
func TestP1701Seal(t *testing.T) {
	d := dice.New(1711)
	supply.EachAsked(d, supply.AllTags(), func(x supply.Asked) {
		size := cipher.Size(x.Tag)
		for n := range 3*size + 2 {
			m := d.Bytes(n)
			checkSeal(t, x, [][]byte{m})
			checkSeal(t, x, supply.Cut(d, m, size+1))
			if hidden, e := shot.Shot(x.Other().Config, x.Key, x.IV, m); e == api.OK {
				checkSeal(t, x, [][]byte{nil, hidden, {}})
				checkSeal(t, x, supply.Cut(d, hidden, 2*size))
			}
		}
	})
}

// It is the message of no bytes, which may be or not.
func TestP1701SealOfNone(t *testing.T) {
	d := dice.New(1712)
	supply.EachAsked(d, supply.AllTags(), func(x supply.Asked) {
		for _, none := range [][][]byte{nil, {}, {nil}, {{}}, {nil, {}, nil}} {
			if _, e := checkSeal(t, x, none); x.MayBe(0) != (e == api.OK) {
				t.Errorf("%+v: %v", x, e)
			}
		}
	})
}

func TestP1701SealOfMany(t *testing.T) {
	d := dice.New(1713)
	supply.EachAsked(d, supply.QuickTags(), func(x supply.Asked) {
		m := d.Bytes(100 * cipher.Size(x.Tag))
		checkSeal(t, x, supply.Cut(d, m, 1))
		checkSeal(t, x, supply.Cut(d, m, 400))
		checkSeal(t, x, append(slices.Repeat([][]byte{{7}}, 200), m))
	})
}

func TestP1701SealOfOldDes(t *testing.T) {
	d := dice.New(1714)
	for _, x := range supply.OldDes() {
		for most := range len(x.Text) {
			y := x.Other()
			if got, e := run.Seal(x.Config, x.Key, x.IV, supply.Cut(d, x.Text, most+1)); e != api.OK || !bytes.Equal(got, x.Hidden) {
				t.Errorf("%+v: %X, %v, not %X", x.Asked, got, e, x.Hidden)
			}
			if got, e := run.Seal(y.Config, y.Key, y.IV, supply.Cut(d, x.Hidden, most+1)); e != api.OK || !bytes.Equal(got, x.Text) {
				t.Errorf("%+v: %X, %v, not %X", y, got, e, x.Text)
			}
		}
	}
}

// refusedSeal holds that an error is told, and no bytes.
func refusedSeal(t *testing.T, x supply.Asked, chunks [][]byte, want api.Errno) {
	t.Helper()
	if out, e := run.Seal(x.Config, x.Key, x.IV, chunks); e != want || len(out) != 0 {
		t.Errorf("Seal of %+v, % X: % X, %v, not %v", x, chunks, out, e, want)
	}
}

// Of several, the first one; whatever the chunks are (P6).
func TestP1701SealRefusesWhatInitRefuses(t *testing.T) {
	d := dice.New(1715)
	for _, x := range supply.SomeAsked(d, supply.AllTags()) {
		for i, f := range supply.Faults() {
			spoilt, more := x, x
			f.Spoil(&spoilt)
			for _, g := range supply.Faults()[i:] {
				g.Spoil(&more)
			}
			for _, n := range []int{0, 5, 16, 40} {
				chunks := supply.Cut(d, d.Bytes(n), 10)
				refusedSeal(t, spoilt, chunks, f.E)
				refusedSeal(t, more, chunks, f.E)
			}
		}
	}
	refusedSeal(t, supply.Asked{}, nil, api.BadTag)
	refusedSeal(t, supply.Asked{}, [][]byte{{1}}, api.BadTag)
}

// However much was told ahead of it.
func TestP1701SealRefusesLengths(t *testing.T) {
	d := dice.New(1716)
	supply.EachAsked(d, supply.QuickTags(), func(x supply.Asked) {
		for n := range 6 * cipher.Size(x.Tag) {
			if !x.MayBe(n) {
				refusedSeal(t, x, supply.Cut(d, d.Bytes(n), 20), api.BadLength)
			}
		}
	})
}

func TestP1701SealRefusesPaddings(t *testing.T) {
	d := dice.New(1717)
	supply.EachAsked(d, supply.AllTags(), func(x supply.Asked) {
		if x.Pad == api.None || !x.Back {
			return
		}
		size, open := cipher.Size(x.Tag), x.Other()
		open.Pad = api.None
		for blocks := range 5 {
			m := slices.Concat(d.Bytes(size*blocks), bytes.Repeat([]byte{byte(129 + blocks)}, size))
			hidden, e := run.Seal(open.Config, open.Key, open.IV, [][]byte{m})
			if e != api.OK {
				t.Fatalf("Seal of %+v: %v", open, e)
			}
			refusedSeal(t, x, supply.Cut(d, hidden, 2*size), api.BadPadding)
		}
	})
}

// Cut in any way, back cut in any other (T2).
func TestP1701SealThereAndBack(t *testing.T) {
	d := dice.New(1718)
	for _, x := range supply.SomeAsked(d, supply.AllTags()) {
		size, y := cipher.Size(x.Tag), x.Other()
		if x.Back {
			continue
		}
		for n := range 5 * size {
			m := d.Bytes(n)
			hidden, e := run.Seal(x.Config, x.Key, x.IV, supply.Cut(d, m, 2*size))
			if x.MayBe(n) != (e == api.OK) {
				t.Fatalf("Seal of %+v, %d bytes: %v", x, n, e)
			}
			if e != api.OK {
				continue
			}
			if again, e := run.Seal(y.Config, y.Key, y.IV, supply.Cut(d, hidden, 3*size)); e != api.OK || !bytes.Equal(again, m) {
				t.Fatalf("%+v: % X, %v, not % X", y, again, e, m)
			}
		}
	}
}

// What is turned back is one of three: its length cannot be; there is a padding, and
// without it, it is the message; or there is none (T3).
func TestP1701SealBackIsOneOfThree(t *testing.T) {
	d := dice.New(1719)
	found := map[api.Errno]int{}
	for range 40 {
		supply.EachAsked(d, supply.QuickTags(), func(x supply.Asked) {
			if x.Pad == api.None || !x.Back {
				return
			}
			size, y := cipher.Size(x.Tag), x.Other()
			m := d.Bytes(d.Below(4 * size))
			if d.Below(4) > 0 {
				y.Pad = 1 + d.Below(3)
				m, _ = run.Seal(y.Config, y.Key, y.IV, [][]byte{m})
			}
			want, wanted := oneOfThree(x, m)
			if out, e := run.Seal(x.Config, x.Key, x.IV, supply.Cut(d, m, size)); e != wanted || !bytes.Equal(out, want) {
				t.Fatalf("%+v: % X: % X, %v, not % X, %v", x, m, out, e, want, wanted)
			}
			found[wanted]++
		})
	}
	if len(found) != 3 {
		t.Errorf("%v", found)
	}
}

// roomy is a copy of b with something behind it, and all of both.
func roomy(d *dice.Dice, b []byte) (front, all []byte) {
	all = slices.Concat(b, d.Bytes(20))
	return all[:len(b)], all
}

// roomyCalls are those with room behind each list, and all of these lists.
func roomyCalls(d *dice.Dice, l []run.Call) (calls []run.Call, rooms [][]byte) {
	room := func(b []byte) []byte {
		front, all := roomy(d, b)
		rooms = append(rooms, all)
		return front
	}
	for _, x := range l {
		x.Key, x.IV, x.In = room(x.Key), room(x.IV), room(x.In)
		calls = append(calls, x)
	}
	return calls, rooms
}

func sameCall(a, b run.Call) bool {
	return a.Kind == b.Kind && a.C == b.C && bytes.Equal(a.Key, b.Key) && bytes.Equal(a.IV, b.IV) && bytes.Equal(a.In, b.In)
}

// What is handed in stays as it was, its spare room too, and no answer shares any of
// it, or of another answer.
func TestP2RunLeavesAll(t *testing.T) {
	d := dice.New(1720)
	for _, x := range supply.SomeAsked(d, supply.AllTags()) {
		l, rooms := roomyCalls(d, append(someCalls(d, x), initOf(x)))
		calls, had := slices.Clone(l), bytes.Join(rooms, nil)
		taken := l[:len(l)-1]
		want := toldBy(taken)
		for i, got := range run.Run(taken) {
			if !alike(got, want[i]) {
				t.Fatalf("call %d: %+v, not %+v", i, got, want[i])
			}
			dice.Spoil(got.Out)
		}
		if !bytes.Equal(bytes.Join(rooms, nil), had) || !slices.EqualFunc(l, calls, sameCall) {
			t.Fatalf("%+v: Run touches what is handed in", x)
		}
	}
}

func TestP2SealLeavesAll(t *testing.T) {
	d := dice.New(1721)
	for _, x := range supply.SomeAsked(d, supply.AllTags()) {
		size := cipher.Size(x.Tag)
		key, allKey := roomy(d, x.Key)
		iv, allIV := roomy(d, x.IV)
		m, all := roomy(d, d.Bytes(size*4))
		whole := slices.Concat(allKey, allIV, all)
		chunks := append(supply.Cut(d, m, size), nil, []byte{1, 2, 3})
		lengths := lengthsOf(chunks)
		taken := chunks[:len(chunks)-2]
		want, e := sealed(x, taken)
		for range 2 {
			got, f := run.Seal(x.Config, key, iv, taken)
			if e != f || !bytes.Equal(got, want) {
				t.Fatalf("%+v: % X, %v, not % X, %v", x, got, f, want, e)
			}
			dice.Spoil(got)
			if !bytes.Equal(slices.Concat(allKey, allIV, all), whole) || !slices.Equal(lengthsOf(chunks), lengths) {
				t.Fatalf("%+v: Seal touches what is handed in", x)
			}
		}
	}
}

func lengthsOf(lists [][]byte) []int {
	var out []int
	for _, b := range lists {
		out = append(out, len(b))
	}
	return out
}

// No list of an answer is written over by a later call, nor is one in which others
// have written.
func TestP2AnswersStay(t *testing.T) {
	d := dice.New(1722)
	for _, x := range supply.SomeAsked(d, supply.AllTags()) {
		l := someCalls(d, x)
		first, want := run.Run(l), toldBy(l)
		sealed, e := run.Seal(x.Config, x.Key, x.IV, [][]byte{l[1].In, l[2].In})
		had := bytes.Clone(sealed)
		for _, told := range run.Run(l) {
			dice.Spoil(told.Out)
		}
		again, f := run.Seal(x.Config, x.Key, x.IV, [][]byte{l[1].In, l[2].In})
		if e != f || !bytes.Equal(again, had) {
			t.Fatalf("%+v: % X, %v, not % X, %v", x, again, f, had, e)
		}
		dice.Spoil(again)
		if !bytes.Equal(sealed, had) || !slices.EqualFunc(first, want, alike) {
			t.Fatalf("%+v: an answer is written over", x)
		}
	}
}

// One list may be handed in again and again.
func TestP2OneListAgain(t *testing.T) {
	d := dice.New(1723)
	for _, x := range supply.SomeAsked(d, supply.AllTags()) {
		x, b := x.OfOneList(d)
		had := bytes.Clone(b)
		checkSeal(t, x, [][]byte{b, b[1:], b, b[:1]})
		check(t, []run.Call{initOf(x), update(b), update(b[1:]), update(b), final(), initOf(x), update(b), final()})
		if !bytes.Equal(b, had) {
			t.Fatalf("%+v: what is handed in is touched", x)
		}
	}
}

// The same again, whatever is called between.
func TestP3TheSameAgain(t *testing.T) {
	d := dice.New(1724)
	all := supply.SomeAsked(d, supply.AllTags())
	for range 30 {
		l, x := anyCalls(d, all, 60), all[d.Below(len(all))]
		chunks := supply.Cut(d, message(d, x), 20)
		told := run.Run(l)
		out, e := run.Seal(x.Config, x.Key, x.IV, chunks)
		for range 3 {
			run.Run(anyCalls(d, all, 20))
			if again := run.Run(l); !slices.EqualFunc(again, told, alike) {
				t.Fatalf("%+v, and %+v", told, again)
			}
			if again, f := run.Seal(x.Config, x.Key, x.IV, chunks); f != e || !bytes.Equal(again, out) {
				t.Fatalf("%+v: % X, %v, and % X, %v", x, out, e, again, f)
			}
		}
	}
}

// Several at one time do not touch one another.
func TestP7SideBySide(t *testing.T) {
	d := dice.New(1725)
	l := anyCalls(d, supply.SomeAsked(d, supply.QuickTags()), 400)
	want := toldBy(l)
	answers := make(chan []run.Told)
	for range 8 {
		go func() { answers <- run.Run(l) }()
	}
	for range 8 {
		if got := <-answers; !slices.EqualFunc(got, want, alike) {
			t.Errorf("%+v, not %+v", got, want)
		}
	}
}

// Any numbers, lists of any length.
func TestP1AnyData(t *testing.T) {
	d := dice.New(1726)
	for range 3000 {
		var l []run.Call
		for range d.Below(8) {
			x := supply.AnyAsked(d)
			l = append(l, run.Call{Kind: d.Below(7) - 1, C: x.Config, Key: x.Key, IV: x.IV, In: d.Bytes(d.Below(30))})
			checkSeal(t, x, supply.Cut(d, d.Bytes(d.Below(60)), 20))
		}
		l = append(l, run.Call{Kind: int(d.Next())})
		check(t, l)
	}
}
