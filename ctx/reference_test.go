package ctx_test

import (
	"bytes"
	"testing"

	"scrim/api"
	"scrim/cipher"
	"scrim/ctx"
	"scrim/modes"
	"scrim/shot"
	"scrim/supply"
)

const (
	stateNew = iota
	stateOpen
	stateDone
)

// told is what a context knows, in the chapter's words: it keeps all that it was
// given, and counts what of it was told.
type told struct {
	state int
	x     supply.Asked
	by    *cipher.Cipher
	given []byte
	count int
}

func (w *told) size() int { return cipher.Size(w.x.Tag) }

// may is how many bytes are held at most.
func (w *told) may() int {
	b, none := w.size(), w.x.Pad == api.None
	switch {
	case w.x.Mode >= api.Cs1:
		return 2 * b
	case w.x.Mode >= api.Cfb8:
		return 0
	case !none && w.x.Back:
		return b
	}
	return b - 1
}

// raw is what the mode makes of the first n bytes, which are whole blocks.
func (w *told) raw(t *testing.T, n int) []byte {
	t.Helper()
	mode := w.x.Mode
	if mode >= api.Cs1 {
		mode = api.Cbc
	}
	m, e := modes.New(w.by, mode, w.x.Back, w.x.IV)
	if e != api.OK {
		t.Fatalf("modes.New of %+v: %v", w.x, e)
	}
	out, e := m.Step(w.given[:n])
	if e != api.OK {
		t.Fatalf("Step of %d bytes of %+v: %v", n, w.x, e)
	}
	return out
}

func (w *told) init(t *testing.T, x supply.Asked) api.Errno {
	t.Helper()
	if e := shot.Check(x.Config, x.Key, x.IV); e != api.OK {
		return e
	}
	x.Key, x.IV = bytes.Clone(x.Key), bytes.Clone(x.IV)
	*w = told{state: stateOpen, x: x, by: supply.Cipher(t, x.Tag, x.Key)}
	return api.OK
}

func (w *told) update(t *testing.T, b []byte) ([]byte, api.Errno) {
	t.Helper()
	if w.state != stateOpen {
		return nil, api.BadState
	}
	w.given = append(w.given, b...)
	from := w.count
	for len(w.given)-w.count > w.may() {
		if w.x.Mode >= api.Cfb8 && w.x.Mode <= api.Ctr {
			w.count++
		} else {
			w.count += w.size()
		}
	}
	return w.raw(t, w.count)[from:], api.OK
}

// final is the whole at once, but for what was told already.
func (w *told) final(t *testing.T) ([]byte, api.Errno) {
	t.Helper()
	if w.state != stateOpen {
		return nil, api.BadState
	}
	w.state = stateDone
	all, e := shot.Shot(w.x.Config, w.x.Key, w.x.IV, w.given)
	if e != api.OK {
		return nil, e
	}
	if front := w.raw(t, w.count); !bytes.HasPrefix(all, front) {
		t.Fatalf("%+v: % X does not begin with % X", w.x, all, front)
	}
	return all[w.count:], api.OK
}

func (w *told) reset() api.Errno {
	if w.state == stateNew {
		return api.BadState
	}
	*w = told{state: stateOpen, x: w.x, by: w.by}
	return api.OK
}

func (w *told) held() int {
	if w.state != stateOpen {
		return 0
	}
	return len(w.given) - w.count
}

// pair is a context, and what the chapter tells of it; each call asks both.
type pair struct {
	t *testing.T
	c *ctx.Ctx
	w told
}

func newPair(t *testing.T) *pair { return &pair{t: t, c: ctx.New()} }

// opened is one behind the Init of what may be.
func opened(t *testing.T, x supply.Asked) *pair {
	t.Helper()
	p := newPair(t)
	if e := p.init(x); e != api.OK {
		t.Fatalf("Init of %+v: %v", x, e)
	}
	return p
}

func (p *pair) same(call string, got []byte, e api.Errno, want []byte, wanted api.Errno) {
	p.t.Helper()
	if e != wanted || !bytes.Equal(got, want) {
		p.t.Fatalf("%s of %+v, %d bytes given: % X, %v, not % X, %v", call, p.w.x, len(p.w.given), got, e, want, wanted)
	}
	if held := p.c.Held(); held != p.w.held() {
		p.t.Fatalf("%s of %+v, %d bytes given: %d held, not %d", call, p.w.x, len(p.w.given), held, p.w.held())
	}
}

func (p *pair) init(x supply.Asked) api.Errno {
	p.t.Helper()
	e := p.c.Init(x.Config, x.Key, x.IV)
	p.same("Init", nil, e, nil, p.w.init(p.t, x))
	return e
}

func (p *pair) update(b []byte) ([]byte, api.Errno) {
	p.t.Helper()
	got, e := p.c.Update(b)
	want, wanted := p.w.update(p.t, b)
	p.same("Update", got, e, want, wanted)
	return got, e
}

func (p *pair) final() ([]byte, api.Errno) {
	p.t.Helper()
	got, e := p.c.Final()
	want, wanted := p.w.final(p.t)
	p.same("Final", got, e, want, wanted)
	return got, e
}

func (p *pair) reset() api.Errno {
	p.t.Helper()
	e := p.c.Reset()
	p.same("Reset", nil, e, nil, p.w.reset())
	return e
}
