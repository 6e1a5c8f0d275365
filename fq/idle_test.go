package fq_test

import (
	"testing"

	"canter/api"
	"canter/fq"
)

// TestCollect: a flow that is Nowhere, one below, at, and above its age; also where the sum is cut, and where time goes back.
func TestCollect(t *testing.T) {
	for _, r := range []struct {
		since, now uint64
		collected  bool
	}{
		{0, 0, false}, {0, 1, false}, {0, age - 1, false}, {0, age, true}, {0, age + 1, true}, {0, most, true},
		{7, 0, false}, {7, 6, false}, {7, 7, false}, {7, age + 6, false}, {7, age + 7, true}, {7, age + 8, true},
		{maxTime, maxTime + age - 1, false}, {maxTime, maxTime + age, true}, {maxTime, maxTime + age + 1, true},
		{most - age - 1, most - 2, false}, {most - age - 1, most - 1, true}, {most - age - 1, most, true},
		{most - age, most - 1, false}, {most - age, most, true},
		{most - age + 1, most - 1, false}, {most - age + 1, most, true},
		{most - 1, most - 1, false}, {most - 1, most, true},
		{most, 0, false}, {most, age, false}, {most, most - 1, false}, {most, most, true},
	} {
		for _, by := range []struct {
			s    api.Seg
			fate int
		}{{seg(2, 9, 10), accepted}, {seg(2, 9, longest), overLimit}, {stamped(2, 9, 10, most), horizon}, {seg(1, 9, 10), accepted}} {
			c := plain()
			c.DropHorizon, c.Horizon = true, 0
			q := made(t, c)
			rest(t, q, 1, 100, r.since)
			if by.fate == overLimit {
				put(t, q, 0, seg(3, 0, 1))
				c.Limit = 1
				set(t, q, c, api.OK)
			}
			if by.fate == horizon && r.now == most {
				continue // nothing is above that
			}
			meets(t, q, by.s, r.now, by.fate)
			switch {
			case by.s.Sock == 1 && r.collected:
				has(t, q, api.Flow{Sock: 1, Credit: 2000, Place: inNew, Segs: []api.Seg{by.s}})
			case by.s.Sock == 1:
				has(t, q, api.Flow{Sock: 1, Credit: 1900, Place: inNew, Next: r.since, Segs: []api.Seg{by.s}})
			case r.collected:
				absent(t, q, 1)
			default:
				has(t, q, api.Flow{Sock: 1, Credit: 1900, Place: nowhere, Next: r.since, Since: r.since})
			}
			if t.Failed() {
				t.Fatalf("P20.2: %+v by %+v", r, by)
			}
		}
	}
}

// TestCollectSome: of several each by its own age.
func TestCollectSome(t *testing.T) {
	q := made(t, plain())
	for sock := range 6 {
		rest(t, q, sock, 100, uint64(10*(6-sock)))
	}
	for n := range 6 {
		meets(t, q, seg(7, 0, 1), age+uint64(10*n)+9, accepted)
		for sock := range 6 {
			if sock >= 6-n {
				absent(t, q, sock)
			} else {
				at := uint64(10 * (6 - sock))
				has(t, q, api.Flow{Sock: sock, Credit: 1900, Place: nowhere, Next: at, Since: at})
			}
		}
	}
}

// TestRefill: a flow that was Nowhere, one below, at, and above what it takes; also where the sum is cut, and where time goes back.
func TestRefill(t *testing.T) {
	for _, r := range []struct {
		since, now uint64
		refilled   bool
	}{
		{0, 0, false}, {0, 1, false}, {0, refill - 1, false}, {0, refill, true}, {0, refill + 1, true}, {0, age - 1, true},
		{7, 0, false}, {7, 6, false}, {7, 7, false}, {7, refill + 6, false}, {7, refill + 7, true}, {7, refill + 8, true},
		{maxTime, maxTime + refill - 1, false}, {maxTime, maxTime + refill, true}, {maxTime, maxTime + refill + 1, true},
		{most - refill - 1, most - 2, false}, {most - refill - 1, most - 1, true},
		// Where it is cut, only the greatest time is late enough; but then its age is reached as well.
		{most - refill, most - 1, false}, {most - refill + 1, most - 1, false}, {most - 10, most - 1, false}, {most - 1, most - 1, false}, {most, most - 1, false}, {most, 0, false},
	} {
		for _, v := range []struct{ size, was, credit int }{{1999, 1, 1000}, {1001, 999, 1000}, {1000, 1000, 1000}, {999, 1001, 1001}, {1, 1999, 1999}, {2500, 500, 1000}, {5000, 1000, 1000}, {longest, 464, 1000}} {
			q := made(t, plain())
			rest(t, q, 1, v.size, r.since)
			has(t, q, api.Flow{Sock: 1, Credit: v.was, Place: nowhere, Next: r.since, Since: r.since})
			s := seg(1, 9, 10)
			put(t, q, r.now, s)
			want := api.Flow{Sock: 1, Credit: v.was, Place: inNew, Next: r.since, Segs: []api.Seg{s}}
			if r.refilled {
				want.Credit = v.credit
			}
			holds(t, q, want)
			if t.Failed() {
				t.Fatalf("P20.2: %+v, %+v", r, v)
			}
		}
	}
}

// TestRefillQuantum: it is the Quantum that it comes to, whether First is greater or less.
func TestRefillQuantum(t *testing.T) {
	for _, r := range []struct{ quantum, first, size, was, is int }{
		{100, 65_536, 65_535, 1, 100},
		{100, 65_536, 65_437, 99, 100},
		{100, 65_536, 65_436, 100, 100},
		{100, 65_536, 65_435, 101, 101},
		{65_536, 100, 99, 1, 65_536},
		{65_536, 100, 100, 65_536, 65_536},
		{65_536, 100, 101, 65_535, 65_536},
	} {
		c := plain()
		c.Quantum, c.First = r.quantum, r.first
		q := made(t, c)
		rest(t, q, 4, r.size, 0)
		has(t, q, api.Flow{Sock: 4, Credit: r.was, Place: nowhere})
		put(t, q, refill, seg(4, 9, 10))
		has(t, q, api.Flow{Sock: 4, Credit: r.is, Place: inNew, Segs: []api.Seg{seg(4, 9, 10)}})
	}
}

// stand: a queue, all of it at the time 0, and the flow of socket 5 in it; nil: it is not there.
type stand struct {
	q    *fq.Queue
	flow *api.Flow
}

// stands: a flow in each place, with segments where it may have some, and without where it may have none.
func stands(t *testing.T) []stand {
	t.Helper()
	l := make([]stand, 0, 9)
	add := func(f *api.Flow) *fq.Queue {
		l = append(l, stand{made(t, plain()), f})
		return l[len(l)-1].q
	}
	add(nil)

	q := add(&api.Flow{Sock: 5, Credit: 2000, Place: inNew, Segs: []api.Seg{seg(5, 0, 100)}})
	put(t, q, 0, seg(5, 0, 100))

	q = add(&api.Flow{Sock: 5, Credit: 1900, Place: inNew})
	put(t, q, 0, seg(5, 0, 100))
	departs(t, q, 0, nil, seg(5, 0, 100))

	q = add(&api.Flow{Sock: 5, Credit: 0, Place: inNew})
	put(t, q, 0, seg(5, 0, 2000))
	departs(t, q, 0, nil, seg(5, 0, 2000))

	q = add(&api.Flow{Sock: 5, Credit: -500, Place: inNew})
	put(t, q, 0, seg(5, 0, 2500))
	departs(t, q, 0, nil, seg(5, 0, 2500))

	q = add(&api.Flow{Sock: 5, Credit: 500, Place: inOld, Segs: []api.Seg{seg(5, 1, 100)}})
	put(t, q, 0, seg(5, 0, 2500), seg(5, 1, 100), seg(6, 0, 100))
	departs(t, q, 0, nil, seg(5, 0, 2500), seg(6, 0, 100))

	q = add(&api.Flow{Sock: 5, Credit: -500, Place: inOld})
	put(t, q, 0, seg(5, 0, 3500), seg(6, 0, 100))
	departs(t, q, 0, nil, seg(5, 0, 3500), seg(6, 0, 100))

	q = add(&api.Flow{Sock: 5, Credit: 2000, Place: waiting, Segs: []api.Seg{stamped(5, 0, 100, second)}})
	put(t, q, 0, stamped(5, 0, 100, second))
	ends(t, q, 0, nil)

	q = add(&api.Flow{Sock: 5, Credit: 500, Place: nowhere})
	rest(t, q, 5, 1500, 0)

	for _, s := range l {
		if s.flow == nil {
			absent(t, s.q, 5)
		} else {
			has(t, s.q, *s.flow)
		}
	}
	return l
}

// later: times, from that at which a flow stands there on.
func later() []uint64 {
	return []uint64{0, 1, refill - 1, refill, refill + 1, age - 1, age, age + 1, maxTime, most}
}

// TestOthers: what is put into another flow collects one that is Nowhere and old enough, and turns no other.
func TestOthers(t *testing.T) {
	for _, now := range later() {
		for _, s := range stands(t) {
			put(t, s.q, now, seg(3, 0, 100))
			if s.flow == nil || s.flow.Place == nowhere && now >= age {
				absent(t, s.q, 5)
			} else {
				has(t, s.q, *s.flow)
			}
		}
	}
}

// TestOwn: what is put into a flow goes behind all of it; only of one that is Nowhere, or not there, anything else is turned.
func TestOwn(t *testing.T) {
	for _, now := range later() {
		for _, s := range stands(t) {
			more := stamped(5, 9, 7, 3)
			put(t, s.q, now, more)
			want := api.Flow{Sock: 5, Credit: 2000, Place: inNew}
			if s.flow != nil && (s.flow.Place != nowhere || now < age) {
				want = *s.flow
			}
			if want.Place == nowhere {
				want.Place = inNew
				if now >= refill {
					want.Credit = 1000
				}
			}
			want.Segs = append(want.Segs, more)
			has(t, s.q, want)
		}
	}
}

// TestBehindNew: a new flow, and one that was Nowhere, go behind all new ones, and ahead of the old ones.
func TestBehindNew(t *testing.T) {
	q := made(t, plain())
	rest(t, q, 4, 100, 0)
	rest(t, q, 0, 100, 0)
	put(t, q, 0, seg(5, 0, 2000), seg(5, 1, 100), seg(6, 0, 100), seg(6, 1, 100))
	departs(t, q, 0, nil, seg(5, 0, 2000), seg(6, 0, 100)) // 5 is old
	put(t, q, 0, seg(4, 1, 100), seg(2, 0, 100), seg(0, 1, 100), seg(5, 2, 100))
	// 6 is the first of the new ones, and then goes Back behind 5; likewise the others, each with nothing left.
	departs(t, q, 0, nil, seg(6, 1, 100), seg(4, 1, 100), seg(2, 0, 100), seg(0, 1, 100), seg(5, 1, 100), seg(5, 2, 100))
	ends(t, q, 0, nil)
}
