package probe_test

import (
	"math"
	"testing"

	"canter/api"
	"canter/probe"
)

const (
	most = math.MaxUint64
	win  = api.MinRttWin
	long = api.ProbeTime
)

var bools = []bool{false, true}

// look: what an Update is handed.
type look struct {
	now, rtt      uint64
	start         bool
	flight, floor uint64
}

// state: what one has come to, in the chapter's words.
type state struct {
	best, stamp uint64
	in          bool
	until       uint64 // what it waits for, while it probes; 0: no time yet
	seen        bool   // a round, while it waits
}

func update(p *probe.Probe, l look) (begins, leaves bool) {
	return p.Update(l.now, l.rtt, l.start, l.flight, l.floor)
}

// plus: the sum; the greatest number, if it is greater.
func plus(a, b uint64) uint64 {
	if a > most-b {
		return most
	}
	return a + b
}

// answers: an Update of a copy of it, and whether it answers so; the copy behind it.
func answers(t *testing.T, p *probe.Probe, s state, l look, begins, leaves bool) probe.Probe {
	t.Helper()
	q := *p
	if b, e := update(&q, l); b != begins || e != leaves {
		t.Errorf("P15.1: at %+v: %+v: %t, %t; want %t, %t", s, l, b, e, begins, leaves)
	}
	if in := (s.in || begins) && !leaves; q.In() != in {
		t.Errorf("P15.1: at %+v: %+v: In %t; want %t", s, l, q.In(), in)
	}
	return q
}

// stamped: whether its best is not expired at its stamp and MinRttWin, and is expired right behind.
func stamped(t *testing.T, p *probe.Probe, s state) {
	t.Helper()
	end := plus(s.stamp, win)
	if !s.in {
		if q := answers(t, p, s, look{end, 0, true, 0, 0}, false, false); q != *p {
			t.Errorf("P15.1: at %+v: Update(%d, 0, ..): not as it was", s, end)
		}
		if end < most {
			answers(t, p, s, look{end + 1, 0, true, 0, 0}, true, false)
		}
	}
	if s.best == most {
		return // no rtt is above it
	}
	worse := look{end, s.best + 1, false, 1, 0}
	q := *p
	if update(&q, worse); q.Best() != s.best {
		t.Errorf("P15.1: at %+v: %+v: Best %d: expired", s, worse, q.Best())
	}
	if end == most {
		return
	}
	worse.now++
	q = *p
	if update(&q, worse); q.Best() != s.best+1 {
		t.Errorf("P15.1: at %+v: %+v: Best %d: not expired", s, worse, q.Best())
	}
}

// waits: whether it probes, and waits for that time, or for none yet.
func waits(t *testing.T, p *probe.Probe, s state) {
	t.Helper()
	for _, start := range bools {
		if s.until == 0 {
			for _, now := range []uint64{0, long, long + 1, most} {
				if q := answers(t, p, s, look{now, 0, start, 1, 0}, false, false); q != *p {
					t.Errorf("P15.1: at %+v: Update(%d, 0, %t, 1, 0): not as it was", s, now, start)
				}
			}
			q := answers(t, p, s, look{7, 0, start, 0, 0}, false, false)
			s := state{s.best, s.stamp, true, 7 + long, false}
			answers(t, &q, s, look{7 + long, 0, true, 1, 0}, false, false)
			answers(t, &q, s, look{8 + long, 0, false, 1, 0}, false, false)
			answers(t, &q, s, look{8 + long, 0, true, 1, 0}, false, true)
			continue
		}
		answers(t, p, s, look{s.until - 1, 0, start, 1, 0}, false, false)
		answers(t, p, s, look{s.until, 0, start, 1, 0}, false, false)
		if s.until < most {
			answers(t, p, s, look{s.until + 1, 0, start, 1, 0}, false, s.seen || start)
		}
	}
}

// stands: whether it has come to that; asking turns nothing: a second one answers the same.
func stands(t *testing.T, p *probe.Probe, s state) {
	t.Helper()
	for range 2 {
		if best, in := p.Best(), p.In(); best != s.best || in != s.in {
			t.Errorf("P15.1: at %+v: Best %d, In %t", s, best, in)
		}
	}
	if s.best == 0 { // nothing expires
		for _, now := range []uint64{0, win, win + 1, most} {
			if q := answers(t, p, s, look{now, 0, true, 0, 0}, false, false); q != *p {
				t.Errorf("P15.1: no best: Update(%d, 0, ..): not as it was", now)
			}
		}
		return
	}
	stamped(t, p, s)
	if s.in {
		waits(t, p, s)
	}
}

// made: one that has come to that, by calls alone; with no best it is one from the beginning.
func made(t *testing.T, s state) *probe.Probe {
	t.Helper()
	p := probe.New()
	if s.best == 0 {
		return p
	}
	if s.in {
		p.Update(0, s.best, false, 1, 0)
		if begins, leaves := p.Update(win+1, 0, false, 1, 0); !begins || leaves {
			t.Errorf("P15.1: expired: %t, %t; want true, false", begins, leaves)
		}
	}
	p.Update(s.stamp, s.best, false, 1, 0)
	if s.until > 0 {
		p.Update(s.until-long, 0, false, 0, 0)
	}
	if s.seen {
		p.Update(0, 0, true, 1, 0)
	}
	stands(t, p, s)
	return p
}

// comes: an Update of one that has come to s: what it answers, and what it has come to then.
func comes(t *testing.T, s state, l look, begins, leaves bool, want state) {
	t.Helper()
	p := made(t, s)
	b, e := update(p, l)
	if b != begins || e != leaves {
		t.Errorf("P15.1: at %+v: %+v: %t, %t; want %t, %t", s, l, b, e, begins, leaves)
	}
	stands(t, p, want)
	if t.Failed() {
		t.Fatalf("P15.1: at %+v: %+v; want %+v", s, l, want)
	}
}

func TestExample(t *testing.T) {
	for _, start := range bools {
		for _, x := range []uint64{0, 1, 100, most} {
			for _, y := range []uint64{0, 1, 100, most} {
				p := probe.New()
				if begins, leaves := p.Update(1, 5, start, x, y); begins || leaves || p.Best() != 5 {
					t.Errorf("P15.1: example 1, with %t, %d, %d: %t, %t, Best %d", start, x, y, begins, leaves, p.Best())
				}
				stands(t, p, state{best: 5, stamp: 1})
			}
		}
	}
}

// TestBeginning: however late the first one comes, there is no best ahead of it, so nothing is expired.
func TestBeginning(t *testing.T) {
	for _, p := range []*probe.Probe{probe.New(), {}} { // R1: the second one New did not make
		stands(t, p, state{})
		for _, now := range []uint64{0, 1, long, win - 1, win, win + 1, 2 * win, 1 << 63, most - win, most - 1, most} {
			for _, start := range bools {
				for _, rtt := range []uint64{0, 1, 50, most} {
					for _, l := range []look{{now, rtt, start, 0, 0}, {now, rtt, start, 0, most}, {now, rtt, start, most, 0}} {
						q := answers(t, p, state{}, l, false, false)
						if rtt > 0 {
							stands(t, &q, state{best: rtt, stamp: now})
						} else {
							stands(t, &q, state{})
						}
					}
				}
			}
		}
	}
}

// TestBest: rtt about the best one, expired or not, as it probes or not.
func TestBest(t *testing.T) {
	for now, old := range map[uint64]bool{0: false, 1: false, 999: false, 1000: false, 1001: false, 999 + win: false, 1000 + win: false, 1001 + win: true, 5000 + win: true, 1 << 63: true, most: true} {
		for _, r := range []struct {
			best, rtt uint64
			less      bool
		}{
			{50, 1, true}, {50, 49, true}, {50, 50, true}, {50, 51, false}, {50, 5000, false}, {50, most, false},
			{1, 1, true}, {1, 2, false}, {1, most, false},
			{most, 1, true}, {most, most - 1, true}, {most, most, true},
			{most - 1, most - 1, true}, {most - 1, most, false},
			{1 << 63, 1<<63 - 1, true}, {1 << 63, 1 << 63, true}, {1 << 63, 1<<63 + 1, false},
			{1<<63 - 1, 1 << 63, false}, {1 << 32, 1, true}, {1, 1 << 32, false},
		} {
			for _, in := range bools {
				s := state{best: r.best, stamp: 1000, in: in}
				none := s
				none.in = in || old
				comes(t, s, look{now, 0, false, 1, 0}, old && !in, false, none)
				if r.less || old {
					comes(t, s, look{now, r.rtt, false, 1, 0}, old && !in, false, state{best: r.rtt, stamp: now, in: in || old})
				} else {
					comes(t, s, look{now, r.rtt, false, 1, 0}, false, false, s)
				}
			}
		}
	}
}

// TestAgain: the same best again grows old from then on, so that it never expires as long as it goes on coming.
func TestAgain(t *testing.T) {
	p := probe.New()
	for n := range uint64(20) {
		now := 1000 + n*win
		for _, rtt := range []uint64{50, 51, 0} {
			if begins, leaves := p.Update(now, rtt, true, 0, 0); begins || leaves {
				t.Errorf("P15.1: Update(%d, %d, ..): %t, %t", now, rtt, begins, leaves)
			}
			stands(t, p, state{best: 50, stamp: now})
		}
	}
}

// TestExpired: now about the stamp and MinRttWin, up to the greatest numbers; it begins to probe then.
func TestExpired(t *testing.T) {
	for _, r := range []struct {
		stamp, now uint64
		want       bool
	}{
		{0, 0, false}, {0, win - 1, false}, {0, win, false}, {0, win + 1, true}, {0, most, true},
		{1, win, false}, {1, win + 1, false}, {1, win + 2, true},
		{1000, 0, false}, {1000, win, false}, {1000, 999 + win, false}, {1000, 1000 + win, false}, {1000, 1001 + win, true},
		{win, 2*win - 1, false}, {win, 2 * win, false}, {win, 2*win + 1, true},
		{1 << 63, 1<<63 + win - 1, false}, {1 << 63, 1<<63 + win, false}, {1 << 63, 1<<63 + win + 1, true}, {1 << 63, 1, false},
		{api.MaxTime, api.MaxTime, false}, {api.MaxTime, api.MaxTime + win, false}, {api.MaxTime, api.MaxTime + win + 1, true},
		{most - win - 2, most - 2, false}, {most - win - 2, most - 1, true}, {most - win - 2, most, true},
		{most - win - 1, most - 2, false}, {most - win - 1, most - 1, false}, {most - win - 1, most, true},
		{most - win, most - 1, false}, {most - win, most, false}, {most - win, 0, false},
		{most - win + 1, most, false}, {most - win + 1, 0, false}, {most - win + 1, 1, false}, {most - win + 1, 2, false},
		{most - 1, most, false}, {most, most, false}, {most, 0, false}, {most, win - 1, false}, {most, win, false}, {most, win + 1, false},
	} {
		for _, rtt := range []uint64{0, 50, 51} {
			s := state{best: 50, stamp: r.stamp}
			want := s
			want.in = r.want
			if rtt == 50 || rtt == 51 && r.want {
				want.best, want.stamp = rtt, r.now
			}
			comes(t, s, look{r.now, rtt, true, 0, 0}, r.want, false, want)
		}
	}
}

// TestNoneExpired: with no best yet nothing is too old, whatever came.
func TestNoneExpired(t *testing.T) {
	p := probe.New()
	for _, now := range []uint64{0, win, win + 1, 3 * win, most, 0, 5 * win, most} {
		if begins, leaves := p.Update(now, 0, true, 0, 0); begins || leaves {
			t.Errorf("P15.1: Update(%d, 0, ..): %t, %t", now, begins, leaves)
		}
		stands(t, p, state{})
	}
}

// TestBegins: whatever flight, floor and start are, it waits for no time in that Update.
func TestBegins(t *testing.T) {
	values := []uint64{0, 1, 4, 5, 1 << 63, most}
	for _, flight := range values {
		for _, floor := range values {
			for _, start := range bools {
				for _, rtt := range []uint64{0, 49, 50, 51, most} {
					s := state{best: 50, stamp: 1000}
					want := state{best: 50, stamp: 1000, in: true}
					if rtt > 0 {
						want.best, want.stamp = rtt, 1001+win
					}
					comes(t, s, look{1001 + win, rtt, start, flight, floor}, true, false, want)
				}
			}
		}
	}
}

// TestNotAgain: while it probes, it does not begin again, expired or not, whether it waits for a time or for none yet.
func TestNotAgain(t *testing.T) {
	for _, until := range []uint64{0, 9 * win, most} {
		for _, now := range []uint64{0, 1000 + win, 1001 + win, 8 * win} {
			for _, rtt := range []uint64{0, 50, 51} {
				s := state{best: 50, stamp: 1000, in: true, until: until}
				want := s
				if rtt == 50 || rtt == 51 && now > 1000+win {
					want.best, want.stamp = rtt, now
				}
				comes(t, s, look{now, rtt, false, 1, 0}, false, false, want)
			}
		}
	}
}

// flights: a flight and a floor, and whether that is little enough.
var flights = []struct {
	flight, floor uint64
	little        bool
}{
	{3, 4, true}, {4, 4, true}, {5, 4, false}, {99, 4, false},
	{0, 0, true}, {1, 0, false}, {0, 1, true}, {1, 1, true}, {2, 1, false},
	{most - 1, most, true}, {most, most, true}, {most, most - 1, false}, {0, most, true}, {most, 0, false},
	{1<<63 - 1, 1 << 63, true}, {1 << 63, 1 << 63, true}, {1<<63 + 1, 1 << 63, false},
	{1<<32 + 3, 4, false}, {4, 1<<32 + 3, true},
}

// TestWaitsForNoTime: flight about floor: from then on it waits for now and ProbeTime, with no round seen, also where one starts with it.
func TestWaitsForNoTime(t *testing.T) {
	for now, until := range map[uint64]uint64{
		0: long, 1: long + 1, 1000 + win: 1000 + win + long, 1001 + win: 1001 + win + long, 1 << 63: 1<<63 + long,
		most - long - 1: most - 1, most - long: most, most - long + 1: most, most - 1: most, most: most,
	} {
		for _, f := range flights {
			for _, start := range bools {
				s := state{best: 50, stamp: 1000, in: true}
				want := s
				if f.little {
					want.until = until
				}
				comes(t, s, look{now, 0, start, f.flight, f.floor}, false, false, want)
				want.best, want.stamp = 49, now
				comes(t, s, look{now, 49, start, f.flight, f.floor}, false, false, want)
			}
		}
	}
}

// TestWaits: a round that starts, or was seen, or neither; now about the time; each together, with any flight.
func TestWaits(t *testing.T) {
	for _, until := range []uint64{long, long + 1, 5 * win, 1 << 63, most - 1, most} {
		for _, now := range []uint64{0, 1, long, until - long, until - 1, until, until + 1, plus(until, long), most - 1, most} { // until + 1 may be 0: it falls
			for _, start := range bools {
				for _, seen := range bools {
					for _, f := range flights {
						s := state{best: 50, stamp: now, in: true, until: until, seen: seen}
						want := s
						want.seen = seen || start
						leaves := want.seen && now > until
						if leaves {
							want = state{best: 50, stamp: now}
						}
						comes(t, s, look{now, 0, start, f.flight, f.floor}, false, leaves, want)
					}
				}
			}
		}
	}
}

// TestRoundAhead: a round that was seen ahead of the time counts behind it; the time alone does not do, and the round alone does not.
func TestRoundAhead(t *testing.T) {
	s := state{best: 50, stamp: 1000, in: true, until: 5000 + long}
	p := made(t, s)
	step := func(l look, leaves bool, want state) {
		t.Helper()
		if b, e := update(p, l); b || e != leaves {
			t.Errorf("P15.1: %+v: %t, %t; want false, %t", l, b, e, leaves)
		}
		stands(t, p, want)
	}
	step(look{4999 + long, 0, false, 0, 4}, false, s)
	step(look{5000 + long, 0, false, 9, 4}, false, s)
	step(look{5001 + long, 0, false, 0, 4}, false, s)
	step(look{9000 + long, 0, false, 9, 4}, false, s)
	s.seen = true
	step(look{6000, 0, true, 9, 4}, false, s)
	step(look{7000, 0, false, 9, 4}, false, s)
	step(look{5000 + long, 0, false, 0, 4}, false, s)
	step(look{5001 + long, 0, false, 9, 4}, true, state{best: 50, stamp: 5001 + long})
}

// TestLeaves: the stamp is now, with any rtt; the best one is taken as in any other Update.
func TestLeaves(t *testing.T) {
	for _, now := range []uint64{long + 1, 1000 + win, 1001 + win, 3 * win, 1 << 63, most - win - 1, most - win, most} {
		for _, stamp := range []uint64{0, 1000, 2 * win, most} {
			for _, rtt := range []uint64{0, 1, 50, 51, most} {
				for _, start := range bools {
					s := state{best: 50, stamp: stamp, in: true, until: long, seen: !start}
					want := state{best: 50, stamp: now}
					if rtt > 0 && rtt <= 50 || rtt > 0 && now > plus(stamp, win) {
						want.best = rtt
					}
					comes(t, s, look{now, rtt, start, 9, 4}, false, true, want)
				}
			}
		}
	}
}

// TestTurns: it begins anew MinRttWin behind where it left, and nothing of the time and the round of the turn before is left.
func TestTurns(t *testing.T) {
	p := probe.New()
	now := uint64(1000)
	p.Update(now, 50, true, 0, 0)
	step := func(l look, begins, leaves bool, want state) {
		t.Helper()
		if b, e := update(p, l); b != begins || e != leaves {
			t.Errorf("P15.1: %+v: %t, %t; want %t, %t", l, b, e, begins, leaves)
		}
		stands(t, p, want)
	}
	for range 5 {
		s := state{best: 50, stamp: now}
		step(look{now + win, 0, true, 0, 4}, false, false, s)
		s.in = true
		now += win + 1
		step(look{now, 0, true, 0, 4}, true, false, s)
		now += 2 * long
		step(look{now, 0, true, 9, 4}, false, false, s) // with much under way, for however long
		s.until = now + long
		step(look{now, 0, true, 4, 4}, false, false, s)
		now += long + 1
		step(look{now, 0, false, 9, 4}, false, false, s)
		now++
		step(look{now, 0, true, 9, 4}, false, true, state{best: 50, stamp: now})
		step(look{now + 1, 60, true, 0, 4}, false, false, state{best: 50, stamp: now})
	}
}

// TestBack: now that falls, between any two Updates: each is taken as it is.
func TestBack(t *testing.T) {
	p := probe.New()
	step := func(l look, begins, leaves bool, want state) {
		t.Helper()
		if b, e := update(p, l); b != begins || e != leaves {
			t.Errorf("P15.1: %+v: %t, %t; want %t, %t", l, b, e, begins, leaves)
		}
		stands(t, p, want)
	}
	step(look{5000, 50, true, 0, 0}, false, false, state{best: 50, stamp: 5000})
	step(look{1000, 50, true, 0, 0}, false, false, state{best: 50, stamp: 1000})
	step(look{1001 + win, 0, true, 0, 0}, true, false, state{best: 50, stamp: 1000, in: true})
	step(look{700, 60, true, 1, 0}, false, false, state{best: 50, stamp: 1000, in: true})
	step(look{700, 50, true, 1, 0}, false, false, state{best: 50, stamp: 700, in: true})
	step(look{300, 0, true, 0, 0}, false, false, state{best: 50, stamp: 700, in: true, until: 300 + long})
	step(look{200, 0, true, 0, 0}, false, false, state{best: 50, stamp: 700, in: true, until: 300 + long, seen: true})
	step(look{0, 60, false, 0, 0}, false, false, state{best: 50, stamp: 700, in: true, until: 300 + long, seen: true})
	step(look{301 + long, 0, false, 0, 0}, false, true, state{best: 50, stamp: 301 + long})
	step(look{100, 0, false, 0, 0}, false, false, state{best: 50, stamp: 301 + long})
	step(look{100, 49, false, 0, 0}, false, false, state{best: 49, stamp: 100})
	step(look{most, 0, false, 0, 0}, true, false, state{best: 49, stamp: 100, in: true})
	step(look{most, 0, false, 0, 0}, false, false, state{best: 49, stamp: 100, in: true, until: most})
	step(look{most, 0, true, 0, 0}, false, false, state{best: 49, stamp: 100, in: true, until: most, seen: true})
	step(look{0, 9, true, 0, 0}, false, false, state{best: 9, stamp: 0, in: true, until: most, seen: true})
}

// TestApart: R2: what is done with one is not to be seen in another.
func TestApart(t *testing.T) {
	a, b := probe.New(), probe.New()
	a.Update(1000, 50, true, 0, 0)
	stands(t, b, state{})
	b.Update(2000, 40, true, 0, 0)
	stands(t, a, state{best: 50, stamp: 1000})
	if begins, _ := a.Update(1001+win, 0, true, 0, 0); !begins {
		t.Error("P15.1: expired: it does not begin")
	}
	stands(t, b, state{best: 40, stamp: 2000})
	a.Update(1002+win, 0, false, 0, 0)
	if begins, _ := b.Update(2001+win, 0, true, 0, 0); !begins {
		t.Error("P15.1: expired: the other one does not begin")
	}
	stands(t, a, state{best: 50, stamp: 1000, in: true, until: 1002 + win + long})
	stands(t, b, state{best: 40, stamp: 2000, in: true})
	if _, leaves := a.Update(1003+win+long, 0, true, 0, 0); !leaves {
		t.Error("P15.1: it does not leave")
	}
	stands(t, a, state{best: 50, stamp: 1003 + win + long})
	stands(t, b, state{best: 40, stamp: 2000, in: true})
	stands(t, probe.New(), state{})
}

func TestNil(t *testing.T) {
	var none *probe.Probe
	for _, now := range []uint64{0, 1, win + 1, 1 << 63, most} {
		for _, rtt := range []uint64{0, 1, 5, most} {
			for _, start := range bools {
				for _, f := range flights {
					if begins, leaves := none.Update(now, rtt, start, f.flight, f.floor); begins || leaves {
						t.Errorf("P15.1: nil: Update(%d, %d, %t, %d, %d): %t, %t", now, rtt, start, f.flight, f.floor, begins, leaves)
					}
					if none.Best() != 0 || none.In() {
						t.Errorf("P15.1: nil: Best %d, In %t", none.Best(), none.In())
					}
				}
			}
		}
	}
}
