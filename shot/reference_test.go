package shot_test

import (
	"slices"
	"testing"

	"scrim/api"
	"scrim/cipher"
	"scrim/modes"
	"scrim/pad"
	"scrim/supply"
)

// through is what one of the modes of package modes makes of all of b.
func through(t *testing.T, x supply.Asked, mode int, b []byte) []byte {
	t.Helper()
	m, e := modes.New(supply.Cipher(t, x.Tag, x.Key), mode, x.Back, x.IV)
	if e != api.OK {
		t.Fatalf("modes.New of %+v: %v", x, e)
	}
	out, e := m.Step(b)
	if e != api.OK {
		t.Fatalf("Step of %d bytes of %+v: %v", len(b), x, e)
	}
	return out
}

// filled is m and as many noughts as fill its last block up.
func filled(m []byte, size int) []byte {
	return slices.Concat(m, make([]byte, (size-len(m)%size)%size))
}

// behind is how many bytes stand behind a message's last block but one, or the whole
// of it, if it is one block alone.
func behind(n, size int) int { return (n-1)%size + 1 }

// yAhead tells whether Y stands ahead of X'.
func yAhead(mode, d, size int) bool { return mode == api.Cs3 || mode == api.Cs2 && d < size }

// stolen is what is made of Cbc's blocks, cbc, where the message had n bytes and was
// filled up.
func stolen(mode, size, n int, cbc []byte) []byte {
	if n <= size {
		return cbc
	}
	d, y := behind(n, size), cbc[len(cbc)-size:]
	front, x := cbc[:n-size-d], cbc[n-size-d:n-size]
	if yAhead(mode, d, size) {
		return slices.Concat(front, y, x)
	}
	return slices.Concat(front, x, y)
}

// unstolen is Cbc's blocks of what stolen made of them: behind X' stands what the
// last block, which noughts had filled up, gives back.
func unstolen(t *testing.T, x supply.Asked, size int, m []byte) []byte {
	t.Helper()
	n := len(m)
	if n <= size {
		return m
	}
	d := behind(n, size)
	first, y := m[n-size-d:n-size], m[n-size:]
	if yAhead(x.Mode, d, size) {
		y, first = m[n-size-d:n-d], m[n-d:]
	}
	z := supply.Turned(t, supply.Cipher(t, x.Tag, x.Key), true, y)
	return slices.Concat(m[:n-size-d], first, z[d:], y)
}

// told is what the chapter makes of m.
func told(t *testing.T, x supply.Asked, m []byte) ([]byte, api.Errno) {
	t.Helper()
	size := cipher.Size(x.Tag)
	whole, none := len(m)/size*size, x.Pad == api.None
	switch {
	case x.Mode >= api.Cs1 && len(m) < size:
		return nil, api.BadLength
	case x.Mode >= api.Cs1 && x.Back:
		return through(t, x, api.Cbc, unstolen(t, x, size, m))[:len(m)], api.OK
	case x.Mode >= api.Cs1:
		return stolen(x.Mode, size, len(m), through(t, x, api.Cbc, filled(m, size))), api.OK
	case none && x.Mode <= api.Cbc && whole != len(m), !none && x.Back && (whole != len(m) || whole == 0):
		return nil, api.BadLength
	case none:
		return through(t, x, x.Mode, m), api.OK
	case x.Back:
		all := through(t, x, x.Mode, m)
		end, e := pad.Strip(x.Pad, size, all[whole-size:])
		if e != api.OK {
			return nil, e
		}
		return slices.Concat(all[:whole-size], end), api.OK
	}
	end, e := pad.Add(x.Pad, size, m[whole:])
	return through(t, x, x.Mode, slices.Concat(m[:whole], end)), e
}
