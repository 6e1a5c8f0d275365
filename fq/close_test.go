package fq_test

import (
	"math"
	"testing"

	"canter/api"
)

// TestWatchdog: of none, of one, of several, of those at the same time; behind each call that may turn it.
func TestWatchdog(t *testing.T) {
	q := made(t, plain())
	watches(t, q, 0, false)
	// None waits till a Dequeue has seen that its time is above now.
	put(t, q, 0, stamped(1, 0, 100, 70), stamped(2, 0, 100, 50), stamped(3, 0, 100, 50), stamped(4, 0, 100, 60), seg(5, 0, 100))
	watches(t, q, 0, false)
	departs(t, q, 10, nil, seg(5, 0, 100))
	watches(t, q, 50, true)
	put(t, q, 10, stamped(6, 0, 100, 20), stamped(2, 1, 100, 20))
	watches(t, q, 50, true)
	ends(t, q, 19, nil)
	watches(t, q, 20, true)
	set(t, q, plain(), api.OK)
	set(t, q, api.Config{}, api.ErrConfig)
	watches(t, q, 20, true)
	closes(t, q, 6, stamped(6, 0, 100, 20))
	watches(t, q, 50, true)
	closes(t, q, 2, stamped(2, 0, 100, 50), stamped(2, 1, 100, 20))
	watches(t, q, 50, true)
	departs(t, q, 50, nil, stamped(3, 0, 100, 50))
	watches(t, q, 60, true)
	put(t, q, 50, stamped(3, 1, 100, 40))
	watches(t, q, 60, true)
	// Those whose time has come wait no more, even while others depart.
	departs(t, q, 65, nil, stamped(3, 1, 100, 40))
	watches(t, q, 70, true)
	has(t, q, api.Flow{Sock: 4, Credit: 2000, Place: inOld, Segs: []api.Seg{stamped(4, 0, 100, 60)}})
	closes(t, q, 1, stamped(1, 0, 100, 70))
	watches(t, q, 0, false)
	departs(t, q, 65, nil, stamped(4, 0, 100, 60))
	ends(t, q, 65, nil)
	watches(t, q, 0, false)
}

// TestWatchdogEdges: the greatest time may be waited for; 0 never is.
func TestWatchdogEdges(t *testing.T) {
	c := plain()
	c.Horizon = maxTime
	q := made(t, c)
	put(t, q, most-10, stamped(1, 0, 100, most))
	ends(t, q, most-1, nil)
	watches(t, q, most, true)
	put(t, q, most-10, stamped(2, 0, 100, 1))
	ends(t, q, 0, nil)
	watches(t, q, 1, true)
	departs(t, q, 1, nil, stamped(2, 0, 100, 1))
	watches(t, q, most, true)
	departs(t, q, most, nil, stamped(1, 0, 100, most))
	watches(t, q, 0, false)
}

// TestClose: a flow in each place is there no more, in no list, and waits for no time; what comes then is a new one.
func TestClose(t *testing.T) {
	for _, now := range later() {
		for row, s := range stands(t) {
			n := s.q.Len()
			var segs []api.Seg
			if s.flow != nil {
				segs = s.flow.Segs
			}
			closes(t, s.q, 5, segs...)
			absent(t, s.q, 5)
			closes(t, s.q, 5)
			watches(t, s.q, 0, false)
			if s.q.Len() != n-len(segs) {
				t.Errorf("P20.4: Len: %d; want %d", s.q.Len(), n-len(segs))
			}
			ends(t, s.q, now, nil)
			put(t, s.q, now, seg(5, 8, 1999), seg(5, 9, 100))
			has(t, s.q, api.Flow{Sock: 5, Credit: 2000, Place: inNew, Segs: []api.Seg{seg(5, 8, 1999), seg(5, 9, 100)}})
			departs(t, s.q, now, nil, seg(5, 8, 1999), seg(5, 9, 100))
			has(t, s.q, api.Flow{Sock: 5, Credit: -99, Place: inNew, Next: now})
			if t.Failed() {
				t.Fatalf("P20.4: row %d, now %d", row, now)
			}
		}
	}
}

// TestCloseOutside: of sockets that are not there, and of none, there is nothing; and nothing is turned.
func TestCloseOutside(t *testing.T) {
	q := made(t, plain())
	l := []api.Seg{seg(0, 0, 100), seg(7, 0, 100)}
	put(t, q, 0, l...)
	want := []api.Flow{{Sock: 0, Credit: 2000, Place: inNew, Segs: l[:1]}, {Sock: 7, Credit: 2000, Place: inNew, Segs: l[1:]}}
	for _, sock := range append(outside(), 1, 2, 6) {
		closes(t, q, sock)
		absent(t, q, sock)
	}
	holds(t, q, want...)
	closes(t, q, 7, l[1])
	closes(t, q, math.MaxInt)
	holds(t, q, want[0])
}

// TestCloseOthers: the others stay in their order, whichever one is closed.
func TestCloseOthers(t *testing.T) {
	for closed := range socks {
		q := made(t, plain())
		// 0 and 1 wait, 2 and 3 are old ones, 4 is empty, and Nowhere, the others are new.
		rest(t, q, 4, 100, 0)
		put(t, q, 0, stamped(1, 0, 100, 30), stamped(0, 0, 100, 30), seg(2, 0, 2500), seg(2, 1, 100), seg(3, 0, 2500), seg(3, 1, 100), seg(5, 0, 100))
		departs(t, q, 0, nil, seg(2, 0, 2500), seg(3, 0, 2500), seg(5, 0, 100))
		put(t, q, 0, seg(7, 0, 100), seg(6, 0, 100), seg(5, 1, 100))
		want := []api.Seg{seg(5, 1, 100), seg(7, 0, 100), seg(6, 0, 100), seg(2, 1, 100), seg(3, 1, 100), stamped(0, 0, 100, 30), stamped(1, 0, 100, 30)}
		var own []api.Seg
		for i, s := range want {
			if s.Sock == closed {
				own, want = want[i:i+1:i+1], append(append([]api.Seg{}, want[:i]...), want[i+1:]...)
				break
			}
		}
		closes(t, q, closed, own...)
		absent(t, q, closed)
		departs(t, q, 30, nil, want...)
		ends(t, q, 30, nil)
		absent(t, q, closed)
		if t.Failed() {
			t.Fatalf("P20.4: closed: %d", closed)
		}
	}
}

// TestClosePace: a flow that is new again waits for nothing that was ahead of it.
func TestClosePace(t *testing.T) {
	q := made(t, plain())
	rates := []uint64{0, 1000}
	put(t, q, 0, seg(1, 0, 100), seg(1, 1, 100))
	departs(t, q, 0, rates, seg(1, 0, 100))
	ends(t, q, 0, rates)
	closes(t, q, 1, seg(1, 1, 100))
	put(t, q, 0, seg(1, 2, 100))
	departs(t, q, 0, rates, seg(1, 2, 100))
	has(t, q, api.Flow{Sock: 1, Credit: 1900, Place: inNew, Next: 100_000_000})
}

// TestOrder: its segments are told in the order in which they came, and depart so, whatever they are.
func TestOrder(t *testing.T) {
	c := plain()
	c.Limit, c.FlowLimit, c.Quantum = 512, 512, 65_536
	q := made(t, c)
	var l []api.Seg
	for i := range 512 {
		s := api.Seg{Sock: 3, From: uint64(i * 7919 % 13), Len: 1 + i*31%100, Stamp: uint64(i * 37 % 50), Again: i%3 == 0}
		l = append(l, s)
		put(t, q, 60, s)
	}
	holds(t, q, api.Flow{Sock: 3, Credit: 2000, Place: inNew, Segs: l})
	departs(t, q, 60, nil, l[:200]...)
	if f, _ := q.Flow(3); len(f.Segs) != 312 || f.Segs[0] != l[200] || f.Segs[311] != l[511] {
		t.Errorf("P20.4: Flow: %+v", f)
	}
	put(t, q, 60, l[:100]...)
	closes(t, q, 3, append(l[200:512:512], l[:100]...)...)
	holds(t, q)
}

// spoil: writes into all of it, with the room behind its end.
func spoil(l []api.Seg) {
	l = l[:cap(l)]
	for i := range l {
		l[i] = api.Seg{Sock: -9, From: 99, Len: -9, Stamp: most, Again: true}
	}
}

// TestOwned: what is handed out is the caller's own.
func TestOwned(t *testing.T) {
	q := made(t, plain())
	l := []api.Seg{seg(1, 0, 100), seg(1, 1, 100), seg(1, 2, 100), seg(1, 3, 100), seg(1, 4, 100)}
	put(t, q, 0, l[:3]...)
	want := api.Flow{Sock: 1, Credit: 2000, Place: inNew, Segs: l[:3]}
	a, _ := q.Flow(1)
	b, _ := q.Flow(1)
	spoil(a.Segs)
	if !same(b, want) {
		t.Errorf("P20.4: Flow: %+v; want %+v", b, want)
	}
	has(t, q, want)
	// Nor is what was told turned by what is done.
	departs(t, q, 0, nil, l[0])
	put(t, q, 0, l[3])
	if !same(b, want) {
		t.Errorf("P20.4: Flow: %+v; want %+v", b, want)
	}
	spoil(b.Segs)
	spoil(append(b.Segs, seg(1, 9, 9)))
	put(t, q, 0, l[4])
	has(t, q, api.Flow{Sock: 1, Credit: 1900, Place: inNew, Segs: l[1:]})
	c, _ := q.Flow(1)
	closed := q.Close(1)
	spoil(c.Segs)
	put(t, q, 0, l[:3]...)
	for i, s := range l[1:] {
		if closed[i] != s {
			t.Errorf("P20.4: Close: %+v; want %+v", closed, l[1:])
		}
	}
	spoil(closed)
	has(t, q, want)
	departs(t, q, 0, nil, l[:3]...)
}
