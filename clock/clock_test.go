package clock_test

import (
	"slices"
	"testing"

	"canter/api"
	"canter/clock"
)

const (
	most = 1<<64 - 1
	last = api.MaxTime
)

// times: rising; 0, MaxTime, 2^63, 2^64 - 1 and what is beside them, with ordinary times between.
func times() []uint64 {
	l := []uint64{
		0, 1, 2, 3, 99, 100, 101, api.Second - 1, api.Second, api.Second + 1,
		1<<32 - 1, 1 << 32, 1<<61 - 1, 1 << 61, 1<<61 + 1,
		last - 101, last - 100, last - 2, last - 1, last, last + 1, last + 2,
		1<<63 - 1, 1 << 63, 1<<63 + 1,
		most - last, most - 2, most - 1, most,
	}
	x := uint64(88172645463325252)
	for i := range 20 {
		x = next(x)
		l = append(l, x>>(i*3%64))
	}
	slices.Sort(l)
	return slices.Compact(l)
}

// next: a short rule that tells numbers of all sizes, one from the other.
func next(x uint64) uint64 {
	x ^= x << 13
	x ^= x >> 7
	return x ^ x<<17
}

func TestNew(t *testing.T) {
	for i, r := range []struct{ at, now uint64 }{
		{0, 0}, {1, 1}, {5, 5}, {api.Second, api.Second},
		{last - 1, last - 1}, {last, last}, {last + 1, last}, {last + 2, last},
		{1 << 63, last}, {most - 1, last}, {most, last},
	} {
		c := clock.New(r.at)
		if c == nil {
			t.Fatalf("P3.1: row %d: New(%d): nil", i, r.at)
		}
		if now := c.Now(); now != r.now {
			t.Errorf("P3.1: row %d: New(%d) is at %d; want %d", i, r.at, now, r.now)
		}
		if now := c.Now(); now != r.now {
			t.Errorf("P3.1: row %d: New(%d) is at %d, asked again; want %d", i, r.at, now, r.now)
		}
	}
}

func TestMove(t *testing.T) {
	for i, r := range []struct {
		at, to uint64
		err    api.Errno
		now    uint64
	}{
		{5, 6, api.OK, 6},
		{5, 5, api.OK, 5},
		{5, 4, api.ErrBack, 5},
		{5, 0, api.ErrBack, 5},
		{0, 0, api.OK, 0},
		{0, 1, api.OK, 1},
		{1, 0, api.ErrBack, 1},
		{0, last - 1, api.OK, last - 1},
		{0, last, api.OK, last},
		{0, last + 1, api.ErrOver, 0},
		{0, most, api.ErrOver, 0},
		{7, last + 1, api.ErrOver, 7},
		{7, 1 << 63, api.ErrOver, 7},
		{7, most - 1, api.ErrOver, 7},
		{7, most, api.ErrOver, 7},
		{last - 1, last - 2, api.ErrBack, last - 1},
		{last - 1, last - 1, api.OK, last - 1},
		{last - 1, last, api.OK, last},
		{last - 1, last + 1, api.ErrOver, last - 1},
		{last, last - 1, api.ErrBack, last},
		{last, 0, api.ErrBack, last},
		{last, last, api.OK, last},
		{last, last + 1, api.ErrOver, last},
		{last, most, api.ErrOver, last},
		{most, last + 1, api.ErrOver, last}, // above MaxTime, and below what New was given
		{most, most, api.ErrOver, last},
		{most, last, api.OK, last},
		{most, last - 1, api.ErrBack, last},
	} {
		c := clock.New(r.at)
		if err := c.Move(r.to); err != r.err || c.Now() != r.now {
			t.Errorf("P3.1: row %d: at %d, Move(%d): error %d, at %d; want %d, %d", i, r.at, r.to, err, c.Now(), r.err, r.now)
		}
	}
}

// TestMoves: one clock, moved on and on; what is refused leaves it, and what comes behind that, as they would be.
func TestMoves(t *testing.T) {
	c := clock.New(10)
	for i, r := range []struct {
		to  uint64
		err api.Errno
		now uint64
	}{
		{9, api.ErrBack, 10},
		{10, api.OK, 10},
		{12, api.OK, 12},
		{11, api.ErrBack, 12},
		{most, api.ErrOver, 12},
		{last + 1, api.ErrOver, 12},
		{12, api.OK, 12},
		{13, api.OK, 13},
		{10, api.ErrBack, 13},
		{0, api.ErrBack, 13},
		{last - 1, api.OK, last - 1},
		{last + 1, api.ErrOver, last - 1},
		{last, api.OK, last},
		{last, api.OK, last},
		{last - 1, api.ErrBack, last},
		{most, api.ErrOver, last},
	} {
		if err := c.Move(r.to); err != r.err || c.Now() != r.now {
			t.Errorf("P3.1: row %d: Move(%d): error %d, at %d; want %d, %d", i, r.to, err, c.Now(), r.err, r.now)
		}
		if v, want := c.After(1), min(r.now+1, last); v != want {
			t.Errorf("P3.1: row %d: After(1) behind Move(%d): %d; want %d", i, r.to, v, want)
		}
	}
}

func TestAfter(t *testing.T) {
	for i, r := range []struct{ at, d, want uint64 }{
		{0, 0, 0},
		{0, 1, 1},
		{100, 7, 107},
		{100, 0, 100},
		{api.Second, api.Second, 2 * api.Second},
		{100, last - 101, last - 1},
		{100, last - 100, last},
		{100, last - 99, last},
		{100, last, last},
		{0, last - 1, last - 1},
		{0, last, last},
		{0, last + 1, last},
		{0, most, last},
		{1, most, last}, // where a sum that goes round would be 0
		{100, most - 99, last},
		{100, most - 98, last},
		{100, most, last},
		{1 << 61, 1<<61 - 1, last - 1},
		{1 << 61, 1 << 61, last},
		{1 << 61, 1<<61 + 1, last},
		{last - 1, 0, last - 1},
		{last - 1, 1, last},
		{last - 1, 2, last},
		{last, 0, last},
		{last, 1, last},
		{last, most - last, last},
		{last, most - last + 1, last},
		{last, most, last},
		{most, 0, last},
		{most, 5, last},
	} {
		c := clock.New(r.at)
		now := c.Now()
		if v := c.After(r.d); v != r.want {
			t.Errorf("P3.1: row %d: at %d, After(%d): %d; want %d", i, r.at, r.d, v, r.want)
		}
		if c.Now() != now {
			t.Errorf("P3.1: row %d: After(%d) moved the clock from %d to %d", i, r.d, now, c.Now())
		}
	}
}

// moveWant: what a clock at now is to answer to Move(to), and where it is then.
func moveWant(now, to uint64) (api.Errno, uint64) {
	switch {
	case to > last:
		return api.ErrOver, now
	case to < now:
		return api.ErrBack, now
	}
	return api.OK, to
}

// TestAllPairs holds every call against its promise, for every pair of times.
func TestAllPairs(t *testing.T) {
	for _, at := range times() {
		now := min(at, last)
		for _, v := range times() {
			c := clock.New(at)
			if c.Now() != now {
				t.Errorf("P3.1: New(%d) is at %d; want %d", at, c.Now(), now)
			}
			want := uint64(last)
			if v < last-now {
				want = now + v
			}
			if after := c.After(v); after != want {
				t.Errorf("P3.1: at %d, After(%d): %d; want %d", now, v, after, want)
			}
			wantErr, then := moveWant(now, v)
			if err := c.Move(v); err != wantErr || c.Now() != then {
				t.Errorf("P3.1: at %d, Move(%d): error %d, at %d; want %d, %d", now, v, err, c.Now(), wantErr, then)
			}
		}
	}
}

// TestNeverFalls: what follows: Now never falls, whatever is asked; and it is never above MaxTime.
func TestNeverFalls(t *testing.T) {
	x := uint64(3141592653589793)
	for start := range 20 {
		c := clock.New(uint64(start) * api.Second)
		now := c.Now()
		for i := range 500 {
			x = next(x)
			to := x >> (x % 64)
			if i%3 == 0 {
				to = c.After(to % api.Second)
			}
			wantErr, want := moveWant(now, to)
			err := c.Move(to)
			if c.Now() < now || c.Now() > last {
				t.Fatalf("Move(%d): Now went from %d to %d", to, now, c.Now())
			}
			if err != wantErr || c.Now() != want {
				t.Fatalf("P3.1: at %d, Move(%d): error %d, at %d; want %d, %d", now, to, err, c.Now(), wantErr, want)
			}
			now = c.Now()
			if after := c.After(x); after < now || after > last || c.Now() != now {
				t.Fatalf("at %d, After(%d): %d, and the clock at %d", now, x, after, c.Now())
			}
		}
	}
}

// TestAfterMoves: a clock may always be moved to what After tells.
func TestAfterMoves(t *testing.T) {
	for _, at := range times() {
		for _, d := range times() {
			c := clock.New(at)
			to := c.After(d)
			if err := c.Move(to); err != api.OK || c.Now() != to {
				t.Errorf("P3.1: at %d, Move(After(%d)): error %d, at %d; want 0, %d", at, d, err, c.Now(), to)
			}
		}
	}
}

func TestNil(t *testing.T) {
	var none *clock.Clock
	for _, v := range times() {
		// ErrNil is named first: it counts for times that are above MaxTime too.
		if err := none.Move(v); err != api.ErrNil {
			t.Errorf("P3.1: a nil clock: Move(%d): error %d; want %d", v, err, api.ErrNil)
		}
		if after := none.After(v); after != 0 {
			t.Errorf("P3.1: a nil clock: After(%d): %d; want 0", v, after)
		}
		if now := none.Now(); now != 0 {
			t.Errorf("P3.1: a nil clock is at %d; want 0", now)
		}
	}
}

// TestZero: R1: a clock that New did not make is one at 0.
func TestZero(t *testing.T) {
	c := new(clock.Clock)
	if c.Now() != 0 || c.After(3) != 3 {
		t.Errorf("P3.1: a zero clock is at %d, and After(3): %d; want 0, 3", c.Now(), c.After(3))
	}
	if err := c.Move(4); err != api.OK || c.Now() != 4 {
		t.Errorf("P3.1: a zero clock: Move(4): error %d, at %d; want 0, 4", err, c.Now())
	}
}

// TestApart: R2: what is done with one clock is not to be seen in another.
func TestApart(t *testing.T) {
	a, b := clock.New(5), clock.New(5)
	if err := a.Move(9); err != api.OK {
		t.Fatalf("P3.1: Move(9): error %d", err)
	}
	c := clock.New(1)
	if a.Now() != 9 || b.Now() != 5 || c.Now() != 1 {
		t.Errorf("R2: three clocks are at %d, %d, %d; want 9, 5, 1", a.Now(), b.Now(), c.Now())
	}
	if err := b.Move(6); err != api.OK || a.Now() != 9 || b.Now() != 6 {
		t.Errorf("R2: Move(6) of one at 5: error %d, at %d, and the other at %d; want 0, 6, 9", err, b.Now(), a.Now())
	}
}
