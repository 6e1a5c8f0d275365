package fq_test

import (
	"math"
	"testing"

	"canter/api"
	"canter/fq"
)

// rest: so many bytes of the socket come and go, and then it is Nowhere, since now.
func rest(t *testing.T, q *fq.Queue, sock, size int, now uint64) {
	t.Helper()
	put(t, q, now, seg(sock, 0, size))
	departs(t, q, now, nil, seg(sock, 0, size))
	ends(t, q, now, nil)
}

// wrong: lengths that none has.
func wrong() []int {
	return []int{math.MinInt, -longest, -1, 0, longest + 1, longest + 2, 2 * longest, 1<<32 + 1, math.MaxInt}
}

// TestRefused: what is refused is not put in, and no flow is collected, whatever its age.
func TestRefused(t *testing.T) {
	q := made(t, plain())
	rest(t, q, 1, 100, 0)
	put(t, q, 0, seg(2, 0, 100))
	for _, now := range []uint64{0, age, most} {
		for _, sock := range outside() {
			for _, size := range append(wrong(), 1, 1000, longest) {
				refuses(t, q, seg(sock, 0, size), now, api.ErrSock)
			}
		}
		for sock := range socks {
			for _, size := range wrong() {
				refuses(t, q, seg(sock, 0, size), now, api.ErrArg)
			}
		}
	}
	holds(t, q,
		api.Flow{Sock: 1, Credit: 1900, Place: nowhere},
		api.Flow{Sock: 2, Credit: 2000, Place: inNew, Segs: []api.Seg{seg(2, 0, 100)}})
}

// TestTaken: all sockets, and lengths at the bounds, with whatever else.
func TestTaken(t *testing.T) {
	for sock := range socks {
		for _, size := range []int{1, 2, 1000, longest - 1, longest} {
			for _, from := range []uint64{0, 1, most} {
				for _, again := range []bool{false, true} {
					q := made(t, plain())
					s := api.Seg{Sock: sock, From: from, Len: size, Stamp: 3, Again: again}
					put(t, q, 7, s)
					holds(t, q, api.Flow{Sock: sock, Credit: 2000, Place: inNew, Segs: []api.Seg{s}})
					departs(t, q, 7, nil, s)
					has(t, q, api.Flow{Sock: sock, Credit: 2000 - size, Place: inNew, Next: 7})
				}
			}
		}
	}
}

// TestLimit: of all, one below, at, and above it, however they are spread over sockets.
func TestLimit(t *testing.T) {
	for _, limit := range []int{1, 2, 9, 511, 512} {
		for _, spread := range []int{1, 3, socks} {
			c := plain()
			c.Limit, c.FlowLimit = limit, 512
			q := made(t, c)
			for i := range limit {
				put(t, q, 5, seg(i%spread, uint64(i), 1))
			}
			full := func() {
				t.Helper()
				for sock := range socks {
					meets(t, q, seg(sock, 999, 1), 5, overLimit)
				}
				if q.Len() != limit {
					t.Errorf("P20.4: Len: %d; want %d", q.Len(), limit)
				}
			}
			full()
			departs(t, q, 5, nil, seg(0, 0, 1))
			put(t, q, 5, seg(7, 900, 1))
			full()
			if limit > 1 {
				c.Limit = limit - 1
				set(t, q, c, api.OK)
				full()
			}
		}
	}
}

// TestFlowLimit: of each flow, one below, at, and above it, whatever is of the others.
func TestFlowLimit(t *testing.T) {
	for _, limit := range []int{1, 2, 9, 62} {
		c := plain()
		c.Limit, c.FlowLimit = 512, limit
		q := made(t, c)
		for i := range limit {
			for sock := range socks {
				put(t, q, 5, seg(sock, uint64(i), 1))
			}
		}
		full := func() {
			t.Helper()
			for sock := range socks {
				meets(t, q, seg(sock, 999, 1), 5, overFlow)
			}
			if q.Len() != socks*limit {
				t.Errorf("P20.4: Len: %d; want %d", q.Len(), socks*limit)
			}
		}
		full()
		departs(t, q, 5, nil, seg(0, 0, 1))
		put(t, q, 5, seg(0, 900, 1))
		full()
		if limit > 1 {
			c.FlowLimit = limit - 1
			set(t, q, c, api.OK)
			full()
		}
	}
}

// TestFlowLimitMost: a flow that is all there is.
func TestFlowLimitMost(t *testing.T) {
	c := plain()
	c.Limit, c.FlowLimit = 512, 511
	q := made(t, c)
	for i := range 511 {
		put(t, q, 5, seg(3, uint64(i), 1))
	}
	meets(t, q, seg(3, 511, 1), 5, overFlow)
	put(t, q, 5, seg(4, 0, 1))
	meets(t, q, seg(3, 511, 1), 5, overLimit)
	meets(t, q, seg(4, 1, 1), 5, overLimit)
	c.FlowLimit = 512
	set(t, q, c, api.OK)
	closes(t, q, 4, seg(4, 0, 1))
	put(t, q, 5, seg(3, 511, 1))
	meets(t, q, seg(3, 512, 1), 5, overLimit)
}

// TestFates: which of more fates counts.
func TestFates(t *testing.T) {
	for _, r := range []struct {
		limit, flowLimit int
		stamp            uint64
		drop             bool
		fate             int
	}{
		{3, 3, 11, true, horizon},
		{3, 3, 11, false, accepted},
		{3, 3, 10, true, accepted},
		{2, 2, 0, true, overLimit},
		{2, 2, 11, true, overLimit},
		{2, 2, 11, false, overLimit},
		{2, 3, 11, true, overLimit},
		{1, 1, 11, true, overLimit},
		{3, 2, 0, true, overFlow},
		{3, 2, 11, true, overFlow},
		{3, 2, 11, false, overFlow},
		{3, 1, 11, true, overFlow},
	} {
		c := plain()
		c.Horizon = 10
		q := made(t, c)
		l := []api.Seg{seg(1, 0, 100), seg(1, 1, 100)}
		put(t, q, 0, l...)
		c.Limit, c.FlowLimit, c.DropHorizon = r.limit, r.flowLimit, r.drop
		set(t, q, c, api.OK)
		meets(t, q, stamped(1, 2, 100, r.stamp), 0, r.fate)
		if r.fate == accepted {
			l = append(l, stamped(1, 2, 100, 10))
		}
		holds(t, q, api.Flow{Sock: 1, Credit: 2000, Place: inNew, Segs: l})
		if t.Failed() {
			t.Fatalf("P20.2: %+v", r)
		}
	}
}

// TestStamps: one below, at, and above now and Horizon; also where the sum is cut.
func TestStamps(t *testing.T) {
	for _, r := range []struct {
		now, horizon, stamp uint64
		latest              uint64 // to which it is cut
	}{
		{1000, 50, 0, 1050},
		{1000, 50, 999, 1050},
		{1000, 50, 1000, 1050},
		{1000, 50, 1001, 1050},
		{1000, 50, 1049, 1050},
		{1000, 50, 1050, 1050},
		{1000, 50, 1051, 1050},
		{1000, 50, most, 1050},
		{1000, 0, 999, 1000},
		{1000, 0, 1000, 1000},
		{1000, 0, 1001, 1000},
		{0, 0, 0, 0},
		{0, 0, 1, 0},
		{0, maxTime, maxTime, maxTime},
		{0, maxTime, maxTime + 1, maxTime},
		{maxTime, maxTime, 2*maxTime - 1, 2 * maxTime},
		{maxTime, maxTime, 2 * maxTime, 2 * maxTime},
		{maxTime, maxTime, 2*maxTime + 1, 2 * maxTime},
		{most - 50, 49, most - 2, most - 1},
		{most - 50, 49, most - 1, most - 1},
		{most - 50, 49, most, most - 1},
		{most - 50, 50, most, most},
		{most - 50, 51, most, most},
		{most - 50, 51, 10, most},
		{most - maxTime + 1, maxTime, most - 1, most},
		{most - maxTime + 1, maxTime, most, most},
		{most, 0, most - 1, most},
		{most, 0, most, most},
		{most, maxTime, 5, most},
		{most, maxTime, most, most},
	} {
		for _, drop := range []bool{false, true} {
			c := plain()
			c.Horizon, c.DropHorizon = r.horizon, drop
			q := made(t, c)
			s := stamped(6, 0, 100, r.stamp)
			if drop && r.stamp > r.latest {
				meets(t, q, s, r.now, horizon)
				holds(t, q)
			} else {
				put(t, q, r.now, s)
				s.Stamp = min(r.stamp, r.latest)
				holds(t, q, api.Flow{Sock: 6, Credit: 2000, Place: inNew, Segs: []api.Seg{s}})
				departs(t, q, s.Stamp, nil, s)
			}
			if t.Failed() {
				t.Fatalf("P20.2: %+v, DropHorizon %t", r, drop)
			}
		}
	}
}

// TestNothingElse: of the fates by which nothing is put in nothing else is done, but what is collected stays so.
func TestNothingElse(t *testing.T) {
	now := uint64(age)
	for _, r := range []struct {
		fate int
		s    api.Seg
		turn func(c *api.Config)
	}{
		{overLimit, seg(0, 9, 100), func(c *api.Config) { c.Limit = 2 }},
		{overLimit, seg(1, 9, 100), func(c *api.Config) { c.Limit = 2 }},
		{overLimit, seg(2, 9, 100), func(c *api.Config) { c.Limit = 2 }},
		{overLimit, seg(3, 9, 100), func(c *api.Config) { c.Limit = 1 }},
		{overFlow, seg(3, 9, 100), func(c *api.Config) { c.FlowLimit = 2 }},
		{overFlow, seg(3, 9, 100), func(c *api.Config) { c.FlowLimit = 1 }},
		{horizon, stamped(0, 9, 100, most), func(c *api.Config) { c.DropHorizon = true }},
		{horizon, stamped(1, 9, 100, most), func(c *api.Config) { c.DropHorizon = true }},
		{horizon, stamped(2, 9, 100, most), func(c *api.Config) { c.DropHorizon = true }},
		{horizon, stamped(3, 9, 100, most), func(c *api.Config) { c.DropHorizon = true }},
	} {
		q := made(t, plain())
		rest(t, q, 1, 1500, 0)         // to be collected
		rest(t, q, 2, 1500, now-age+1) // not yet, but it may have more credit
		put(t, q, 0, seg(3, 0, 100), seg(3, 1, 100))
		c := plain()
		r.turn(&c)
		set(t, q, c, api.OK)
		for range 2 {
			meets(t, q, r.s, now, r.fate)
			holds(t, q,
				api.Flow{Sock: 2, Credit: 500, Place: nowhere, Next: 1, Since: 1},
				api.Flow{Sock: 3, Credit: 2000, Place: inNew, Segs: []api.Seg{seg(3, 0, 100), seg(3, 1, 100)}})
		}
		if t.Failed() {
			t.Fatalf("P20.2: %+v", r)
		}
	}
}
