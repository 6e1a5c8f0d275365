package fq_test

import (
	"math"
	"slices"
	"testing"

	"canter/api"
	"canter/fq"
)

// The numbers that the document names stand here by hand, so that a test does not lean on what it tests.
const (
	most    = 1<<64 - 1
	second  = 1_000_000_000
	maxTime = 1 << 62
	refill  = 40_000_000
	age     = 3_000_000_000
	socks   = 8
	longest = 65_536

	nowhere = 0
	inNew   = 1
	inOld   = 2
	waiting = 3

	accepted  = 0
	overLimit = 2
	overFlow  = 3
	horizon   = 4
)

func TestNumbers(t *testing.T) {
	if api.Unlimited != uint64(most) || api.Second != second || api.MaxDelay != second || api.MaxTime != maxTime || api.RefillDelay != refill || api.CollectAge != age || api.MaxSocks != socks || api.MaxTso != longest {
		t.Error("numbers")
	}
	if api.Nowhere != nowhere || api.InNew != inNew || api.InOld != inOld || api.Waiting != waiting {
		t.Error("places")
	}
	if api.Accepted != accepted || api.OverLimit != overLimit || api.OverFlow != overFlow || api.Horizon != horizon {
		t.Error("fates")
	}
}

// plain: the config of most tests.
func plain() api.Config {
	return api.Config{Quantum: 1000, First: 2000, Limit: 50, FlowLimit: 20, Horizon: 10 * second, Cap: 1000, Mss: 1000}
}

// outside: numbers that no socket has.
func outside() []int {
	return []int{math.MinInt, math.MinInt + 1, -1 << 32, -socks, -2, -1, socks, socks + 1, 2 * socks, 1 << 32, math.MaxInt - 1, math.MaxInt}
}

// made: a queue with that config.
func made(t *testing.T, c api.Config) *fq.Queue {
	t.Helper()
	q, err := fq.New(c)
	if q == nil || err != api.OK {
		t.Fatalf("P20.1: New(%+v): %v, error %d", c, q, err)
	}
	return q
}

func set(t *testing.T, q *fq.Queue, c api.Config, want api.Errno) {
	t.Helper()
	if err := q.Set(c); err != want {
		t.Errorf("P20.1: Set(%+v): error %d; want %d", c, err, want)
	}
}

// seg: one without a Stamp.
func seg(sock int, from uint64, size int) api.Seg { return api.Seg{Sock: sock, From: from, Len: size} }

// stamped: one with it.
func stamped(sock int, from uint64, size int, stamp uint64) api.Seg {
	return api.Seg{Sock: sock, From: from, Len: size, Stamp: stamp}
}

// meets: s comes to that fate.
func meets(t *testing.T, q *fq.Queue, s api.Seg, now uint64, want int) {
	t.Helper()
	if fate, err := q.Enqueue(s, now); fate != want || err != api.OK {
		t.Errorf("P20.2: Enqueue(%+v, %d): %d, error %d; want %d", s, now, fate, err, want)
	}
}

// put: those are accepted, one behind the other.
func put(t *testing.T, q *fq.Queue, now uint64, l ...api.Seg) {
	t.Helper()
	for _, s := range l {
		meets(t, q, s, now, accepted)
	}
}

func refuses(t *testing.T, q *fq.Queue, s api.Seg, now uint64, want api.Errno) {
	t.Helper()
	if fate, err := q.Enqueue(s, now); fate != 0 || err != want {
		t.Errorf("P20.2: Enqueue(%+v, %d): %d, error %d; want error %d", s, now, fate, err, want)
	}
}

// departs: those do, one behind the other.
func departs(t *testing.T, q *fq.Queue, now uint64, rates []uint64, l ...api.Seg) {
	t.Helper()
	for i, want := range l {
		if s, ok := q.Dequeue(now, rates); s != want || !ok {
			t.Errorf("P20.3: Dequeue(%d, %d), the %d. time: %+v, %t; want %+v", now, rates, i, s, ok, want)
		}
	}
}

// ends: none departs.
func ends(t *testing.T, q *fq.Queue, now uint64, rates []uint64) {
	t.Helper()
	if s, ok := q.Dequeue(now, rates); s != (api.Seg{}) || ok {
		t.Errorf("P20.3: Dequeue(%d, %d): %+v, %t; want none", now, rates, s, ok)
	}
}

// watches: what Watchdog tells; none, if ok is false.
func watches(t *testing.T, q *fq.Queue, want uint64, ok bool) {
	t.Helper()
	if at, is := q.Watchdog(); at != want || is != ok {
		t.Errorf("P20.3: Watchdog: %d, %t; want %d, %t", at, is, want, ok)
	}
}

// closes: what Close tells.
func closes(t *testing.T, q *fq.Queue, sock int, want ...api.Seg) {
	t.Helper()
	if l := q.Close(sock); !slices.Equal(l, want) {
		t.Errorf("P20.4: Close(%d): %+v; want %+v", sock, l, want)
	}
}

// same: whether all of two flows is.
func same(a, b api.Flow) bool {
	return a.Sock == b.Sock && a.Credit == b.Credit && a.Place == b.Place && a.Next == b.Next && a.Since == b.Since && slices.Equal(a.Segs, b.Segs)
}

// holds: whether just these flows are there, and Len and Watchdog tell the same of them; twice, since telling changes nothing.
func holds(t *testing.T, q *fq.Queue, want ...api.Flow) {
	t.Helper()
	for range 2 {
		var all [socks]bool
		n, at, waits := 0, uint64(most), false
		for _, w := range want {
			if f, ok := q.Flow(w.Sock); !ok || !same(f, w) {
				t.Errorf("P20.4: Flow(%d): %+v, %t; want %+v", w.Sock, f, ok, w)
			}
			all[w.Sock] = true
			n += len(w.Segs)
			if w.Place == waiting {
				at, waits = min(at, max(w.Next, w.Segs[0].Stamp)), true
			}
		}
		for sock, is := range all {
			if !is {
				absent(t, q, sock)
			}
		}
		if !waits {
			at = 0
		}
		watches(t, q, at, waits)
		if q.Len() != n {
			t.Errorf("P20.4: Len: %d; want %d", q.Len(), n)
		}
	}
}

func absent(t *testing.T, q *fq.Queue, sock int) {
	t.Helper()
	if f, ok := q.Flow(sock); ok || !same(f, api.Flow{}) {
		t.Errorf("P20.4: Flow(%d): %+v, %t; want none", sock, f, ok)
	}
}

// has: whether the socket's flow is as want is.
func has(t *testing.T, q *fq.Queue, want api.Flow) {
	t.Helper()
	if f, ok := q.Flow(want.Sock); !ok || !same(f, want) {
		t.Errorf("P20.4: Flow(%d): %+v, %t; want %+v", want.Sock, f, ok, want)
	}
}

func TestExample(t *testing.T) {
	for _, now := range []uint64{0, 1, second, maxTime, most} {
		for sock := range socks {
			q := made(t, plain())
			s := api.Seg{Sock: sock, From: 7, Len: 1000, Stamp: now, Again: true}
			put(t, q, now, s)
			departs(t, q, now, nil, s)
			ends(t, q, now, nil)
		}
	}
}

func TestNil(t *testing.T) {
	var q *fq.Queue
	set(t, q, plain(), api.ErrNil)
	set(t, q, api.Config{}, api.ErrNil)
	for _, sock := range append(outside(), 0, 7) {
		for _, size := range []int{math.MinInt, 0, 1, longest, longest + 1} {
			refuses(t, q, seg(sock, 0, size), 5, api.ErrNil)
		}
		closes(t, q, sock)
		absent(t, q, sock)
	}
	ends(t, q, 0, nil)
	ends(t, q, most, []uint64{1, 2})
	holds(t, q)
}

// TestZero: a queue that New did not make takes nothing, till it has a config; then it is one like any other.
func TestZero(t *testing.T) {
	q := &fq.Queue{}
	meets(t, q, seg(0, 0, 1), 5, overLimit)
	ends(t, q, 5, nil)
	closes(t, q, 0)
	holds(t, q)
	refuses(t, q, seg(-1, 0, 1), 5, api.ErrSock)
	set(t, q, api.Config{}, api.ErrConfig)
	meets(t, q, seg(0, 0, 1), 5, overLimit)
	set(t, q, plain(), api.OK)
	put(t, q, 5, stamped(3, 0, 100, 9), seg(4, 0, 100))
	departs(t, q, 5, nil, seg(4, 0, 100))
	ends(t, q, 5, nil)
	watches(t, q, 9, true)
	departs(t, q, 9, nil, stamped(3, 0, 100, 9))
}

// TestApart: what is done with one queue is nothing to another.
func TestApart(t *testing.T) {
	a, b := made(t, plain()), made(t, plain())
	put(t, a, 5, seg(1, 7, 100), stamped(2, 0, 100, 9))
	holds(t, b)
	ends(t, b, 5, nil)
	put(t, b, 5, seg(1, 8, 200))
	departs(t, a, 5, nil, seg(1, 7, 100))
	holds(t, b, api.Flow{Sock: 1, Credit: 2000, Place: inNew, Segs: []api.Seg{seg(1, 8, 200)}})
	closes(t, b, 1, seg(1, 8, 200))
	has(t, a, api.Flow{Sock: 1, Credit: 1900, Place: inNew, Next: 5})
}
