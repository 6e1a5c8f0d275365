package probe_test

import (
	"testing"

	"canter/probe"
)

// told: the chapter's words, one by one.
type told struct {
	best, stamp uint64
	probes      bool
	waits       bool // for time
	time        uint64
	round       bool // was seen
}

func (o *told) expired(now uint64) bool {
	if o.best == 0 || now <= o.stamp {
		return false
	}
	return now-o.stamp > win
}

func (o *told) update(l look) (bool, bool) {
	expired := o.expired(l.now)
	if l.rtt > 0 {
		if o.best == 0 || l.rtt <= o.best || expired {
			o.best = l.rtt
			o.stamp = l.now
		}
	}
	if expired && !o.probes {
		o.probes = true
		o.waits = false
		return true, false
	}
	if o.probes {
		if !o.waits {
			if l.flight <= l.floor {
				o.waits = true
				o.time = plus(l.now, long)
				o.round = false
			}
		} else {
			if l.start {
				o.round = true
			}
			if o.round && l.now > o.time {
				o.stamp = l.now
				o.probes = false
				return false, true
			}
		}
	}
	return false, false
}

func (o *told) state() state {
	s := state{best: o.best, stamp: o.stamp, in: o.probes}
	if o.probes && o.waits {
		s.until, s.seen = o.time, o.round
	}
	return s
}

// trial: one, and what it is held against.
type trial struct {
	p    *probe.Probe
	want told
}

func (r *trial) update(t *testing.T, l look) (begins, leaves bool) {
	t.Helper()
	r.asked(t)
	before := r.want.state()
	begins, leaves = r.want.update(l)
	if b, e := update(r.p, l); b != begins || e != leaves {
		t.Errorf("P15.1: at %+v: %+v: %t, %t; want %t, %t", before, l, b, e, begins, leaves)
	}
	r.asked(t)
	return begins, leaves
}

func (r *trial) asked(t *testing.T) {
	t.Helper()
	if best, in := r.p.Best(), r.p.In(); best != r.want.best || in != r.want.probes {
		t.Errorf("P15.1: at %+v: Best %d, In %t", r.want.state(), best, in)
	}
}

// source: numbers of a run, by a short rule, one from the other.
type source struct {
	x    uint64
	pick func(x uint64) uint64
}

func (r *source) any() uint64 {
	r.x ^= r.x << 13
	r.x ^= r.x >> 7
	r.x ^= r.x << 17
	return r.x
}

func (r *source) number() uint64 { return r.pick(r.any()) }

// below: a number below n, whatever the numbers of the run are.
func (r *source) below(n int) int { return int(r.any() >> 16 % uint64(n)) }

// about: a number of the run, or one about v.
func (r *source) about(v uint64) uint64 {
	switch r.below(5) {
	case 0:
		return v - 1
	case 1:
		return v
	case 2:
		return v + 1
	}
	return r.number()
}

// look: numbers of the run; often about the edges of what turns something.
func (r *source) look(o *told) look {
	l := look{now: r.number(), start: r.below(3) == 0, flight: r.number()}
	switch r.below(4) {
	case 0:
		l.now = r.about(plus(o.stamp, win))
	case 1:
		l.now = r.about(o.time)
	case 2:
		l.now = r.about(o.stamp)
	}
	if r.below(2) == 0 {
		l.rtt = r.about(o.best)
	}
	l.floor = r.about(l.flight)
	return l
}

// picks: small numbers, some of ProbeTime and of MinRttWin, the greatest ones, those of all sizes, and small ones among which the greatest are.
var picks = []func(uint64) uint64{
	func(x uint64) uint64 { return x >> 8 % 3 },
	func(x uint64) uint64 { return x >> 8 % 4 * long },
	func(x uint64) uint64 { return x >> 8 % 4 * win },
	func(x uint64) uint64 { return x>>8%3*win + x>>24%3*long + x>>40%3 },
	func(x uint64) uint64 { return most - x>>8%4 },
	func(x uint64) uint64 { return most - x>>8%4*(win/2) - x>>24%3*long - x>>40%3 },
	func(x uint64) uint64 { return x >> (x >> 8 % 64) },
	func(x uint64) uint64 {
		if x>>40%20 == 0 {
			return most - x>>8%50
		}
		return x >> 8 % 50
	},
	func(x uint64) uint64 { return x >> 8 % 3 * (most / 2) },
}

// TestRuns: long mixed runs, with now that rises and falls.
func TestRuns(t *testing.T) {
	for kind, pick := range picks {
		begun, left := 0, 0
		for run := range 30 {
			src := &source{uint64(2718281828459045 + 1000*kind + run), pick}
			r := &trial{p: probe.New()}
			for k := range 2000 {
				if src.below(100) == 0 { // one that waits for the greatest time does not leave, nor does a stamp up there grow old
					r = &trial{p: probe.New()}
				}
				begins, leaves := r.update(t, src.look(&r.want))
				if begins {
					begun++
				}
				if leaves {
					left++
				}
				if src.below(10) == 0 {
					stands(t, r.p, r.want.state())
				}
				if t.Failed() {
					t.Fatalf("numbers of kind %d, run %d, step %d", kind, run, k)
				}
			}
		}
		if begun < 100 || left < 100 {
			t.Errorf("numbers of kind %d: began %d times, left %d times: too few to tell", kind, begun, left)
		}
	}
}

// TestTime: time goes on, and it begins and leaves as it comes, turn after turn.
func TestTime(t *testing.T) {
	for _, step := range []uint64{long / 3, long, win / 7, win / 2, win, 2 * win} {
		for run := range 10 {
			src := &source{1618033988749894 + step + uint64(run), func(x uint64) uint64 { return x >> 8 % 50 }}
			r := &trial{p: probe.New()}
			now, begun, left := uint64(0), 0, 0
			for k := range 5000 {
				now += src.any() >> 8 % step
				l := src.look(&r.want)
				l.now = now
				if src.below(10) > 0 { // else it would hardly ever grow old
					l.rtt = 0
				} else if step < win/10 && l.rtt > 0 {
					l.rtt = r.want.best + 1
				}
				begins, leaves := r.update(t, l)
				if begins {
					begun++
				}
				if leaves {
					left++
				}
				if r.p.In() != (begun > left) || begun-left > 1 || left > begun {
					t.Errorf("what follows: began %d times, left %d times: In %t", begun, left, r.p.In())
				}
				if t.Failed() {
					t.Fatalf("steps below %d, run %d, step %d", step, run, k)
				}
			}
			if left < 5 {
				t.Errorf("steps below %d, run %d: left %d times: too few to tell", step, run, left)
			}
		}
	}
}

// TestApartRuns: R2: some side by side, each held against its own.
func TestApartRuns(t *testing.T) {
	for kind, pick := range picks {
		src := &source{uint64(1414213562373095 + kind), pick}
		var all [5]*trial
		for i := range all {
			all[i] = &trial{p: probe.New()}
		}
		for range 4000 {
			i := src.below(len(all))
			if src.below(100) == 0 {
				all[i] = &trial{p: probe.New()}
			}
			all[i].update(t, src.look(&all[i].want))
			for _, r := range all {
				r.asked(t)
			}
			if t.Failed() {
				t.Fatalf("numbers of kind %d", kind)
			}
		}
	}
}

// states: what one may have come to, with those stamps and times.
func states(stamps, times []uint64) []state {
	l := []state{{}}
	for _, stamp := range stamps {
		l = append(l, state{best: 50, stamp: stamp}, state{best: 50, stamp: stamp, in: true})
		for _, until := range times {
			for _, seen := range bools {
				l = append(l, state{50, stamp, true, until, seen})
			}
		}
	}
	return l
}

// TestEachLook: from each of some states, with all looks of a few numbers.
func TestEachLook(t *testing.T) {
	stamps := []uint64{0, 1, long, win, most - win - 1, most - win, most}
	times := []uint64{long, long + 1, win, win + 1, most - 1, most}
	nows := []uint64{0, 1, long, long + 1, long + 2, win, win + 1, win + 2, 2 * win, 2*win + 1, most - win, most - 1, most}
	for _, s := range states(stamps, times) {
		for _, now := range nows {
			for _, rtt := range []uint64{0, 49, 50, 51} {
				for _, start := range bools {
					for _, flight := range []uint64{3, 4, 5} {
						want := told{s.best, s.stamp, s.in, s.until > 0, s.until, s.seen}
						l := look{now, rtt, start, flight, 4}
						begins, leaves := want.update(l)
						comes(t, s, l, begins, leaves, want.state())
					}
				}
			}
		}
	}
}

// TestShortRuns: all short runs of looks of a few, from the beginning on.
func TestShortRuns(t *testing.T) {
	looks := []look{
		{0, 50, false, 1, 0}, {1, 0, true, 0, 0}, {win + 1, 60, true, 0, 0}, {win + 1, 0, false, 1, 0},
		{win + 2 + long, 40, true, 0, 0}, {win + 2 + long, 0, false, 1, 0}, {2*win + 5 + long, 0, true, 0, 0}, {most, 50, true, 0, 0},
	}
	const steps = 5
	all := 1
	for range steps {
		all *= len(looks)
	}
	for k := range all {
		r := &trial{p: probe.New()}
		rest := k
		for range steps {
			r.update(t, looks[rest%len(looks)])
			rest /= len(looks)
		}
		if k%16 == 0 {
			stands(t, r.p, r.want.state())
		}
		if t.Failed() {
			t.Fatalf("run %d", k)
		}
	}
}

// TestInTurn: what follows: it begins only where it does not probe, leaves only where it does, never both at once, and In tells which came last.
func TestInTurn(t *testing.T) {
	for kind, pick := range picks {
		for run := range 40 {
			src := &source{uint64(1732050807568877 + 1000*kind + run), pick}
			p := probe.New()
			for k := range 300 {
				was := p.In()
				begins, leaves := p.Update(src.number(), src.number(), src.below(2) == 0, src.number(), src.number())
				is := p.In()
				if begins && was || leaves && !was || begins && leaves || is != (begins || was && !leaves) {
					t.Fatalf("what follows: numbers of kind %d, run %d, step %d: In %t, Update %t, %t, In %t", kind, run, k, was, begins, leaves, is)
				}
			}
		}
	}
}
