package fq_test

import (
	"slices"
	"testing"

	"canter/api"
)

func TestNone(t *testing.T) {
	for _, now := range []uint64{0, 5, most} {
		q := made(t, plain())
		for range 3 {
			ends(t, q, now, nil)
			ends(t, q, now, []uint64{1, 2, 3})
			holds(t, q)
		}
		// Nor where all there is is Nowhere: its Since stays.
		rest(t, q, 1, 100, 3)
		for range 3 {
			ends(t, q, now, nil)
			holds(t, q, api.Flow{Sock: 1, Credit: 1900, Place: nowhere, Next: 3, Since: 3})
		}
	}
}

// TestCredit: one above 0, 0, and below 0 by some quanta, of one that is alone.
func TestCredit(t *testing.T) {
	for _, r := range []struct{ quantum, size, left, then int }{
		{1000, 1998, 2, 1},
		{1000, 1999, 1, 0},
		{1000, 2000, 0, 999},
		{1000, 2001, -1, 998},
		{1000, 2999, -999, 0},
		{1000, 3000, -1000, 999},
		{1000, 3001, -1001, 998},
		{1000, 5500, -3500, 499},
		{1000, longest, -63_536, 463},
		{100, longest, -63_536, 63},
		{65_536, longest, -63_536, 1999},
		{65_536, 2000, 0, 65_535},
	} {
		c := plain()
		c.Quantum = r.quantum
		q := made(t, c)
		put(t, q, 5, seg(1, 0, r.size), seg(1, 1, 1))
		departs(t, q, 5, nil, seg(1, 0, r.size))
		holds(t, q, api.Flow{Sock: 1, Credit: r.left, Place: inNew, Next: 5, Segs: []api.Seg{seg(1, 1, 1)}})
		departs(t, q, 5, nil, seg(1, 1, 1))
		want := api.Flow{Sock: 1, Credit: r.then, Place: inOld, Next: 5}
		if r.left > 0 {
			want.Place = inNew
		}
		holds(t, q, want)
		if t.Failed() {
			t.Fatalf("P20.3: %+v", r)
		}
	}
}

// TestCreditTurns: one that is below 0 by some quanta lets the others have their turns, till it is above.
func TestCreditTurns(t *testing.T) {
	c := plain()
	c.First = 1000
	q := made(t, c)
	put(t, q, 0, seg(1, 0, 4500), seg(1, 1, 500))
	for i := range uint64(6) {
		put(t, q, 0, seg(2, i, 1000))
	}
	departs(t, q, 0, nil, seg(1, 0, 4500))
	has(t, q, api.Flow{Sock: 1, Credit: -3500, Place: inNew, Segs: []api.Seg{seg(1, 1, 500)}})
	for i, credit := range []int{-2500, -1500, -500, 500} {
		departs(t, q, 0, nil, seg(2, uint64(i), 1000))
		has(t, q, api.Flow{Sock: 1, Credit: credit, Place: inOld, Segs: []api.Seg{seg(1, 1, 500)}})
	}
	departs(t, q, 0, nil, seg(1, 1, 500), seg(2, 4, 1000), seg(2, 5, 1000))
	ends(t, q, 0, nil)
	holds(t, q, api.Flow{Sock: 1, Credit: 1000, Place: nowhere}, api.Flow{Sock: 2, Credit: 1000, Place: nowhere})
}

// TestCreditStays: as long as it is above 0 one stays the head, however long its segments are.
func TestCreditStays(t *testing.T) {
	q := made(t, plain())
	put(t, q, 0, seg(1, 0, 1), seg(1, 1, 1998), seg(1, 2, longest), seg(1, 3, 1), seg(2, 0, 1999), seg(2, 1, 1), seg(2, 2, 1))
	departs(t, q, 0, nil, seg(1, 0, 1), seg(1, 1, 1998), seg(1, 2, longest), seg(2, 0, 1999), seg(2, 1, 1), seg(2, 2, 1))
	// 66 quanta were more than what it was below 0.
	departs(t, q, 0, nil, seg(1, 3, 1))
	has(t, q, api.Flow{Sock: 1, Credit: 464, Place: inOld})
	has(t, q, api.Flow{Sock: 2, Credit: 999, Place: nowhere})
}

// TestEmptyNew: a new flow without segments: with an old one there it goes Back, and without it is Nowhere.
func TestEmptyNew(t *testing.T) {
	q := made(t, plain())
	put(t, q, 0, seg(1, 0, 100))
	departs(t, q, 0, nil, seg(1, 0, 100))
	ends(t, q, 8, nil)
	holds(t, q, api.Flow{Sock: 1, Credit: 1900, Place: nowhere, Since: 8})

	// The old one does not end the turns: it has a segment.
	q = made(t, plain())
	put(t, q, 0, seg(2, 0, 2500), seg(2, 1, 100), seg(2, 2, 100), seg(1, 0, 100))
	departs(t, q, 0, nil, seg(2, 0, 2500), seg(1, 0, 100), seg(2, 1, 100))
	holds(t, q,
		api.Flow{Sock: 1, Credit: 1900, Place: inOld},
		api.Flow{Sock: 2, Credit: 400, Place: inOld, Segs: []api.Seg{seg(2, 2, 100)}})
	// With more in it meanwhile it stays where it is.
	put(t, q, 0, seg(1, 1, 100))
	has(t, q, api.Flow{Sock: 1, Credit: 1900, Place: inOld, Segs: []api.Seg{seg(1, 1, 100)}})
	departs(t, q, 7, nil, seg(2, 2, 100))
	departs(t, q, 8, nil, seg(1, 1, 100))
	ends(t, q, 9, nil)
	holds(t, q,
		api.Flow{Sock: 1, Credit: 1800, Place: nowhere, Next: 8, Since: 9},
		api.Flow{Sock: 2, Credit: 300, Place: nowhere, Next: 7, Since: 8})
}

// TestEmptyNewBehind: a new one behind it does not count as an old one; one that just went Back does.
func TestEmptyNewBehind(t *testing.T) {
	q := made(t, plain())
	put(t, q, 0, seg(1, 0, 100), seg(2, 0, 2500), seg(2, 1, 100), seg(3, 0, 100))
	departs(t, q, 0, nil, seg(1, 0, 100), seg(2, 0, 2500))
	has(t, q, api.Flow{Sock: 1, Credit: 1900, Place: nowhere})
	departs(t, q, 0, nil, seg(3, 0, 100))
	departs(t, q, 0, nil, seg(2, 1, 100))
	has(t, q, api.Flow{Sock: 3, Credit: 1900, Place: inOld})
}

// TestEmptyOld: an old flow without segments is Nowhere, whether there are others or not; of one whose Credit is at most 0 that comes first.
func TestEmptyOld(t *testing.T) {
	q := made(t, plain())
	put(t, q, 0, seg(1, 0, 2100), seg(2, 0, 2200), seg(2, 1, 700), seg(2, 2, 200), seg(2, 3, 200))
	departs(t, q, 0, nil, seg(1, 0, 2100), seg(2, 0, 2200))
	holds(t, q,
		api.Flow{Sock: 1, Credit: 900, Place: inOld},
		api.Flow{Sock: 2, Credit: -200, Place: inNew, Segs: []api.Seg{seg(2, 1, 700), seg(2, 2, 200), seg(2, 3, 200)}})
	departs(t, q, 6, nil, seg(2, 1, 700))
	holds(t, q,
		api.Flow{Sock: 1, Credit: 900, Place: nowhere, Since: 6},
		api.Flow{Sock: 2, Credit: 100, Place: inOld, Next: 6, Segs: []api.Seg{seg(2, 2, 200), seg(2, 3, 200)}})
	departs(t, q, 7, nil, seg(2, 2, 200), seg(2, 3, 200))
	has(t, q, api.Flow{Sock: 2, Credit: 700, Place: inOld, Next: 7})
	ends(t, q, 8, nil)
	has(t, q, api.Flow{Sock: 2, Credit: 700, Place: nowhere, Next: 7, Since: 8})

	q = made(t, plain())
	put(t, q, 0, seg(1, 0, 9500))
	departs(t, q, 0, nil, seg(1, 0, 9500))
	ends(t, q, 4, nil)
	holds(t, q, api.Flow{Sock: 1, Credit: 500, Place: nowhere, Since: 4})
}

// TestTime: of a flow, one below, at, and above now; whichever is greater of its Next and the Stamp, also where only the first segment's counts.
func TestTime(t *testing.T) {
	const time = 1000
	for _, now := range []uint64{0, time - 1, time, time + 1, most} {
		for row, l := range [][]api.Seg{
			{stamped(1, 1, 100, time)},
			{stamped(1, 1, 100, time), seg(1, 2, 100)},
			{stamped(1, 1, 100, time), stamped(1, 2, 100, time-1)},
		} {
			q := made(t, plain())
			put(t, q, 0, l...)
			if now < time {
				ends(t, q, now, nil)
				holds(t, q, api.Flow{Sock: 1, Credit: 2000, Place: waiting, Segs: l})
				ends(t, q, time-1, nil)
			}
			departs(t, q, max(now, time), nil, l...)
			if t.Failed() {
				t.Fatalf("P20.3: row %d, now %d", row, now)
			}
		}
		for _, stamp := range []uint64{0, time - 1, time} {
			q := made(t, plain())
			s := stamped(1, 1, 100, stamp)
			put(t, q, 0, seg(1, 0, 100), s)
			departs(t, q, 0, []uint64{0, 100_000_000}, seg(1, 0, 100))
			if now < time {
				ends(t, q, now, nil)
				holds(t, q, api.Flow{Sock: 1, Credit: 1900, Place: waiting, Next: time, Segs: []api.Seg{s}})
				ends(t, q, time-1, nil)
			}
			departs(t, q, max(now, time), nil, s)
		}
		// The Stamp is above Next.
		q := made(t, plain())
		s := stamped(1, 1, 100, time)
		put(t, q, 0, seg(1, 0, 100), s)
		departs(t, q, 0, []uint64{0, 100_000_000_000 / (time - 1)}, seg(1, 0, 100))
		if now < time {
			ends(t, q, now, nil)
			holds(t, q, api.Flow{Sock: 1, Credit: 1900, Place: waiting, Next: 999, Segs: []api.Seg{s}})
			ends(t, q, time-1, nil)
		}
		departs(t, q, max(now, time), nil, s)
	}
}

// TestSecondStamp: it is the first segment's that a flow waits for, and then the second one's.
func TestSecondStamp(t *testing.T) {
	q := made(t, plain())
	l := []api.Seg{stamped(1, 0, 100, 10), stamped(1, 1, 100, 30), stamped(1, 2, 100, 20)}
	put(t, q, 0, l...)
	ends(t, q, 9, nil)
	watches(t, q, 10, true)
	departs(t, q, 10, nil, l[0])
	watches(t, q, 0, false)
	ends(t, q, 10, nil)
	watches(t, q, 30, true)
	ends(t, q, 29, nil)
	departs(t, q, 30, nil, l[1], l[2])
}

// TestTimeBack: now may be less than it was: one that waits goes on waiting.
func TestTimeBack(t *testing.T) {
	q := made(t, plain())
	l := []api.Seg{seg(1, 0, 100), seg(1, 1, 100)}
	put(t, q, 500, l...)
	departs(t, q, 500, nil, l[0])
	ends(t, q, 499, nil)
	holds(t, q, api.Flow{Sock: 1, Credit: 1900, Place: waiting, Next: 500, Segs: l[1:]})
	ends(t, q, 0, nil)
	departs(t, q, 500, nil, l[1])
	ends(t, q, 3, nil)
	holds(t, q, api.Flow{Sock: 1, Credit: 1800, Place: nowhere, Next: 500, Since: 3})
}

// orders: all orders of n numbers from 0 on.
func orders(n int) [][]int {
	if n == 0 {
		return [][]int{nil}
	}
	var l [][]int
	for _, o := range orders(n - 1) {
		for at := range n {
			l = append(l, slices.Insert(slices.Clone(o), at, n-1))
		}
	}
	return l
}

// TestWake: those Waiting go behind all old ones, by rising time, then socket, in whatever order they came to wait.
func TestWake(t *testing.T) {
	at := []uint64{30, 10, 20, 20, 10} // by socket
	for _, order := range orders(len(at)) {
		c := plain()
		c.Quantum, c.First = 2000, 1000
		q := made(t, c)
		// 6 is old, with segments, and a credit above 0.
		put(t, q, 0, seg(6, 0, 1000), seg(6, 1, 1000), seg(6, 2, 100))
		departs(t, q, 0, nil, seg(6, 0, 1000), seg(6, 1, 1000))
		for _, sock := range order {
			put(t, q, 0, stamped(sock, 0, 100, at[sock]))
		}
		departs(t, q, 0, nil, seg(6, 2, 100))
		put(t, q, 0, seg(6, 3, 900), seg(6, 4, 100))
		watches(t, q, 10, true)
		put(t, q, 15, seg(7, 0, 100))
		departs(t, q, 15, nil, seg(7, 0, 100))
		has(t, q, api.Flow{Sock: 1, Credit: 1000, Place: inOld, Segs: []api.Seg{stamped(1, 0, 100, 10)}})
		has(t, q, api.Flow{Sock: 4, Credit: 1000, Place: inOld, Segs: []api.Seg{stamped(4, 0, 100, 10)}})
		has(t, q, api.Flow{Sock: 2, Credit: 1000, Place: waiting, Segs: []api.Seg{stamped(2, 0, 100, 20)}})
		watches(t, q, 20, true)
		// 6, then those of 10, then 7, which went Back, and then those of 20, and 30.
		put(t, q, 15, seg(7, 1, 100))
		departs(t, q, 30, nil, seg(7, 1, 100), seg(6, 3, 900),
			stamped(1, 0, 100, 10), stamped(4, 0, 100, 10), stamped(2, 0, 100, 20), stamped(3, 0, 100, 20), stamped(0, 0, 100, 30), seg(6, 4, 100))
		ends(t, q, 30, nil)
		watches(t, q, 0, false)
		if t.Failed() {
			t.Fatalf("P20.3: the order %d", order)
		}
	}
}

// TestWakeAll: all sockets at the same time, in any order.
func TestWakeAll(t *testing.T) {
	for _, order := range orders(5) {
		q := made(t, plain())
		for _, sock := range order {
			put(t, q, 0, stamped(sock, 0, 100, 50))
			ends(t, q, 49, nil)
		}
		for sock := range 5 {
			departs(t, q, 50, nil, stamped(sock, 0, 100, 50))
		}
		ends(t, q, 50, nil)
	}
	q := made(t, plain())
	for sock := range socks {
		put(t, q, 0, stamped(7-sock, 0, 100, uint64(50+sock/4)))
	}
	ends(t, q, 49, nil)
	for _, sock := range []int{4, 5, 6, 7, 0, 1, 2, 3} {
		departs(t, q, 60, nil, stamped(sock, 0, 100, uint64(50+(7-sock)/4)))
	}
}

// TestNext: how long the one behind it waits: by the lesser rate of the socket's and the config's.
func TestNext(t *testing.T) {
	const none = most
	for _, r := range []struct {
		rates         []uint64
		sock          int
		maxRate, size uint64
		takes         uint64
	}{
		{nil, 0, 0, 1000, 0},
		{nil, 7, 0, longest, 0},
		{[]uint64{}, 3, 0, 1000, 0},
		{[]uint64{1_000_000}, 0, 0, 1000, 1_000_000},
		{[]uint64{1_000_000}, 1, 0, 1000, 0}, // past their end
		{[]uint64{1, 1, 1, 1, 1, 1, 1}, 7, 0, 1000, 0},
		{[]uint64{1, 1, 1, 1, 1, 1, 1, 2_000_000}, 7, 0, 1000, 500_000},
		{[]uint64{1, 1, 1, 1, 1, 1, 1, 1_000_000, 1, 1, 1}, 7, 0, 1000, 1_000_000}, // longer than the sockets
		{[]uint64{0, 1, 1}, 0, 0, 1000, 0},                                         // 0 counts as none
		{[]uint64{1, 0, 1}, 1, 0, 1000, 0},
		{[]uint64{none, 1}, 0, 0, 1000, 0},
		{[]uint64{3_000_000}, 0, 0, 1000, 333_333}, // rounded down
		{[]uint64{3_000_000}, 0, 0, 2, 666},
		{[]uint64{2_000_000_000}, 0, 0, 1, 0},
		{[]uint64{1_000_000_000}, 0, 0, 1, 1},
		{[]uint64{1001}, 0, 0, 1000, 999_000_999},
		{[]uint64{1000}, 0, 0, 1000, second},
		{[]uint64{999}, 0, 0, 1000, second}, // a Second at most
		{[]uint64{1}, 0, 0, longest, second},
		{nil, 0, 1_000_000, 1000, 1_000_000},
		{[]uint64{}, 4, 1_000_000, 1000, 1_000_000},
		{[]uint64{0}, 0, 1_000_000, 1000, 1_000_000},
		{[]uint64{none}, 0, 1_000_000, 1000, 1_000_000},
		{[]uint64{2_000_000}, 0, 1_000_000, 1000, 1_000_000}, // MaxRate is less
		{[]uint64{2_000_000}, 0, 1_999_999, 1000, 500_000},
		{[]uint64{2_000_000}, 0, 2_000_000, 1000, 500_000},
		{[]uint64{2_000_000}, 0, 2_000_001, 1000, 500_000},
		{[]uint64{2_000_000}, 0, 4_000_000, 1000, 500_000}, // and greater
		{[]uint64{2_000_000}, 0, none, 1000, 500_000},
		{[]uint64{none}, 0, none, 1000, 0},
		{[]uint64{0}, 0, none, 1000, 0},
		{[]uint64{none - 1}, 0, none, longest, 0},
		{nil, 0, none, 1000, 0},
		{nil, 0, 1, 1000, second},
		{[]uint64{9, 4_000_000, 9}, 1, 5_000_000, 1000, 250_000},
		{[]uint64{9, 6_000_000, 9}, 1, 5_000_000, 1000, 200_000},
	} {
		for _, now := range []uint64{0, 77, maxTime, most - second} {
			c := plain()
			c.MaxRate = r.maxRate
			q := made(t, c)
			s := seg(r.sock, 0, int(r.size))
			put(t, q, now, s)
			departs(t, q, now, r.rates, s)
			holds(t, q, api.Flow{Sock: r.sock, Credit: 2000 - int(r.size), Place: inNew, Next: now + r.takes})
			if t.Failed() {
				t.Fatalf("P20.3: %+v, now %d", r, now)
			}
		}
	}
}

// TestNextCut: the greatest time, where the sum is more; then the next one departs then.
func TestNextCut(t *testing.T) {
	for _, r := range []struct{ now, next uint64 }{
		{most - 1001, most - 1}, {most - 1000, most}, {most - 999, most}, {most - 1, most}, {most, most},
	} {
		q := made(t, plain())
		l := []api.Seg{seg(2, 0, 1000), seg(2, 1, 1000)}
		put(t, q, 0, l...)
		rates := []uint64{0, 0, 1_000_000_000}
		departs(t, q, r.now, rates, l[0])
		holds(t, q, api.Flow{Sock: 2, Credit: 1000, Place: inNew, Next: r.next, Segs: l[1:]})
		if r.now < most-1 {
			ends(t, q, r.next-1, rates)
			watches(t, q, r.next, true)
		}
		departs(t, q, most, rates, l[1])
		has(t, q, api.Flow{Sock: 2, Place: place(r.now < most-1), Next: most})
	}
}

// place: of one that has waited, or not.
func place(waited bool) int {
	if waited {
		return inOld
	}
	return inNew
}

// TestNextSame: whatever rates are at another time, what a departure set stays.
func TestNextSame(t *testing.T) {
	q := made(t, plain())
	l := []api.Seg{seg(0, 0, 1000), seg(0, 1, 1000), seg(0, 2, 1000)}
	put(t, q, 0, l...)
	departs(t, q, 0, []uint64{1_000_000}, l[0])
	for _, rates := range [][]uint64{nil, {0}, {1}, {most}, {1_000_000_000}} {
		ends(t, q, 999_999, rates)
		watches(t, q, 1_000_000, true)
	}
	departs(t, q, 1_000_000, []uint64{500_000}, l[1])
	ends(t, q, 2_999_999, nil)
	departs(t, q, 3_000_000, nil, l[2])
}

// TestPace: pulled whenever something is told to have its time, those of each flow depart just as far apart as they take.
func TestPace(t *testing.T) {
	c := plain()
	c.MaxRate = 4_000_000
	q := made(t, c)
	rates := []uint64{1_000_000, 8_000_000, 0, 3}
	takes := []uint64{1_000_000, 250_000, 250_000, second} // by socket: of 1000 bytes
	for i := range uint64(10) {
		for sock := range takes {
			put(t, q, 7, seg(sock, i, 1000))
		}
	}
	at := []uint64{7, 7, 7, 7} // when the next one is to depart
	for now, ok := uint64(7), true; ok; now, ok = q.Watchdog() {
		for s, is := q.Dequeue(now, rates); is; s, is = q.Dequeue(now, rates) {
			if now != at[s.Sock] {
				t.Errorf("what follows: %+v departs at %d; want %d", s, now, at[s.Sock])
			}
			at[s.Sock] = now + takes[s.Sock]
		}
	}
	for sock, last := range at {
		if want := 7 + 10*takes[sock]; last != want || q.Len() != 0 {
			t.Errorf("what follows: the last one of %d takes till %d; want %d; %d are left", sock, last, want, q.Len())
		}
	}
}

// TestRatesStay: what is handed in is not changed, with the room behind its end, and not kept.
func TestRatesStay(t *testing.T) {
	rates := []uint64{1_000_000, 0, 3, 1, 2, 3, 4, 5, 6, 7, 8, 9}
	was := slices.Clone(rates)
	q := made(t, plain())
	l := []api.Seg{seg(0, 0, 1000), seg(0, 1, 1000)}
	put(t, q, 0, l...)
	departs(t, q, 0, rates[:3], l[0])
	if !slices.Equal(rates, was) {
		t.Errorf("P20.3: rates: %d; want %d", rates, was)
	}
	clear(rates)
	has(t, q, api.Flow{Sock: 0, Credit: 1000, Place: inNew, Next: 1_000_000, Segs: l[1:]})
	ends(t, q, 999_999, rates)
}
