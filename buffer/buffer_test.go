package buffer_test

import (
	"math"
	"testing"

	"canter/api"
	"canter/buffer"
)

// The numbers that the document names stand here by hand, so that a test does not lean on what it tests.
const (
	maxBuffer = 1_073_741_824
	ok        = 0
	errArg    = 1
	errNil    = 2
	errFull   = 5
	errAck    = 11
)

func TestNumbers(t *testing.T) {
	if api.MaxBuffer != maxBuffer {
		t.Errorf("P21.1: MaxBuffer %d", api.MaxBuffer)
	}
	if api.OK != ok || api.ErrArg != errArg || api.ErrNil != errNil || api.ErrFull != errFull || api.ErrAck != errAck {
		t.Errorf("P21.1: OK %d, ErrArg %d, ErrNil %d, ErrFull %d, ErrAck %d", api.OK, api.ErrArg, api.ErrNil, api.ErrFull, api.ErrAck)
	}
}

func write(t *testing.T, b *buffer.Buffer, n int, want api.Errno) {
	t.Helper()
	if err := b.Write(n); err != want {
		t.Errorf("P21.1: Write(%d): error %d; want %d", n, err, want)
	}
}

func take(t *testing.T, b *buffer.Buffer, most int, from, to uint64) {
	t.Helper()
	if r, is := b.Take(most); r.From != from || r.To != to || !is {
		t.Errorf("P21.1: Take(%d): %+v, %t; want from %d to %d", most, r, is, from, to)
	}
}

func takeNone(t *testing.T, b *buffer.Buffer, most int) {
	t.Helper()
	if r, is := b.Take(most); r != (api.Range{}) || is {
		t.Errorf("P21.1: Take(%d): %+v, %t; want none", most, r, is)
	}
}

func acked(t *testing.T, b *buffer.Buffer, upto uint64, want api.Errno) {
	t.Helper()
	if err := b.Acked(upto); err != want {
		t.Errorf("P21.1: Acked(%d): error %d; want %d", upto, err, want)
	}
}

// holds: whether those three are what the buffer tells; together they tell each of its numbers.
func holds(t *testing.T, b *buffer.Buffer, unsent, held, written uint64) {
	t.Helper()
	if n := b.Unsent(); n != unsent {
		t.Errorf("P21.1: Unsent: %d; want %d", n, unsent)
	}
	if n := b.Held(); n != held {
		t.Errorf("P21.1: Held: %d; want %d", n, held)
	}
	if n := b.Written(); n != written {
		t.Errorf("P21.1: Written: %d; want %d", n, written)
	}
}

// made: a buffer for room bytes, of which those numbers were written, taken and acknowledged.
func made(t *testing.T, room, written, taken, base int) *buffer.Buffer {
	t.Helper()
	b := buffer.New(room)
	if written > 0 {
		write(t, b, written, ok)
	}
	if taken > 0 {
		take(t, b, taken, 0, uint64(taken))
	}
	acked(t, b, uint64(base), ok)
	holds(t, b, uint64(written-taken), uint64(written-base), uint64(written))
	return b
}

func TestExample(t *testing.T) {
	b := buffer.New(100)
	write(t, b, 5, ok)
	take(t, b, 3, 0, 3)
	holds(t, b, 2, 5, 5)
	take(t, b, 3, 3, 5)
	holds(t, b, 0, 5, 5)
}

func TestNew(t *testing.T) {
	for _, row := range []struct{ n, room int }{
		{math.MinInt, 0}, {math.MinInt + 1, 0}, {-maxBuffer, 0}, {-1 << 32, 0}, {-5, 0}, {-1, 0},
		{0, 0}, {1, 1}, {2, 2}, {1000, 1000}, {1 << 29, 1 << 29},
		{maxBuffer - 1, maxBuffer - 1}, {maxBuffer, maxBuffer}, {maxBuffer + 1, maxBuffer}, {1<<32 + 5, maxBuffer}, {1 << 62, maxBuffer}, {math.MaxInt, maxBuffer},
	} {
		b := buffer.New(row.n)
		if b == nil {
			t.Fatalf("P21.1: New(%d): nil", row.n)
		}
		holds(t, b, 0, 0, 0)
		takeNone(t, b, 1)
		acked(t, b, 1, errAck)
		acked(t, b, 0, ok)
		write(t, b, row.room+1, errFull)
		holds(t, b, 0, 0, 0)
		if row.room > 0 {
			write(t, b, row.room, ok)
		}
		holds(t, b, uint64(row.room), uint64(row.room), uint64(row.room))
		write(t, b, 1, errFull)
		if t.Failed() {
			t.Fatalf("P21.1: New(%d); want room for %d", row.n, row.room)
		}
	}
}

func TestNil(t *testing.T) {
	var none *buffer.Buffer
	for _, n := range []int{math.MinInt, -1, 0, 1, 5, maxBuffer, maxBuffer + 1, math.MaxInt} {
		write(t, none, n, errNil)
		takeNone(t, none, n)
		acked(t, none, uint64(n), errNil)
		holds(t, none, 0, 0, 0)
	}
}

// TestZero: one that New did not make is as one for no bytes.
func TestZero(t *testing.T) {
	b := new(buffer.Buffer)
	holds(t, b, 0, 0, 0)
	write(t, b, 0, errArg)
	write(t, b, 1, errFull)
	takeNone(t, b, 1)
	acked(t, b, 1, errAck)
	acked(t, b, 0, ok)
	holds(t, b, 0, 0, 0)
}

// TestApart: what is done with one buffer turns nothing of another.
func TestApart(t *testing.T) {
	a, b := buffer.New(10), buffer.New(10)
	write(t, a, 7, ok)
	take(t, a, 5, 0, 5)
	acked(t, a, 2, ok)
	holds(t, b, 0, 0, 0)
	write(t, b, 10, ok)
	take(t, b, 1, 0, 1)
	acked(t, b, 2, errAck)
	holds(t, b, 9, 10, 10)
	holds(t, a, 2, 5, 7)
}
