package cycle_test

import (
	"testing"

	"canter/api"
	"canter/cycle"
)

// told: the chapter's words, one by one.
type told struct {
	phase int
	since uint64
}

func (o *told) start(now uint64, phase int) {
	for phase >= 1<<20 || phase < -1<<20 { // nearer to 0, by whole rounds
		phase -= phase / api.Phases / 2 * api.Phases
	}
	for phase < 0 {
		phase += api.Phases
	}
	for phase >= api.Phases {
		phase -= api.Phases
	}
	o.phase, o.since = phase, now
}

func (o *told) over(l look) bool {
	if l.now < o.since {
		return false
	}
	return l.now-o.since > l.rtt
}

func (o *told) update(l look) bool {
	begins := o.over(l)
	if o.phase == 0 {
		begins = o.over(l) && (l.lost > 0 || l.flight >= l.up)
	}
	if o.phase == 1 {
		begins = o.over(l) || l.flight <= l.one
	}
	if begins {
		o.phase++
		if o.phase > api.Phases-1 {
			o.phase = 0
		}
		o.since = l.now
	}
	return begins
}

func (o *told) gain() uint64 {
	if o.phase == 0 {
		return api.UpGain
	}
	if o.phase == 1 {
		return api.DownGain
	}
	return api.Unit
}

// trial: one, and what it is held against.
type trial struct {
	c    *cycle.Cycle
	want told
}

func (r *trial) start(t *testing.T, now uint64, phase int) {
	t.Helper()
	r.c.Start(now, phase)
	r.want.start(now, phase)
	r.asked(t)
}

func (r *trial) update(t *testing.T, l look) bool {
	t.Helper()
	r.asked(t)
	before := r.want
	want := r.want.update(l)
	if got := update(r.c, l); got != want {
		t.Errorf("P14.1: at %+v: %+v: %t; want %t", before, l, got, want)
	}
	r.asked(t)
	return want
}

func (r *trial) asked(t *testing.T) {
	t.Helper()
	if phase, gain := r.c.Phase(), r.c.Gain(); phase != r.want.phase || gain != r.want.gain() {
		t.Errorf("P14.1: at %+v: Phase %d, Gain %d; want Gain %d", r.want, phase, gain, r.want.gain())
	}
}

// source: numbers of a run, by a short rule, one from the other.
type source struct {
	x    uint64
	pick func(x uint64) uint64
}

func (r *source) any() uint64 {
	r.x ^= r.x << 13
	r.x ^= r.x >> 7
	r.x ^= r.x << 17
	return r.x
}

func (r *source) number() uint64 { return r.pick(r.any()) }

// below: a number below n, whatever the numbers of the run are.
func (r *source) below(n int) int { return int(r.any() >> 16 % uint64(n)) }

// about: a number of the run, or one about v.
func (r *source) about(v uint64) uint64 {
	switch r.below(6) {
	case 0:
		return v - 1
	case 1:
		return v
	case 2:
		return v + 1
	}
	return r.number()
}

// look: numbers of the run; often about the edges of what ends a phase.
func (r *source) look(o *told) look {
	l := look{now: r.number(), rtt: r.number(), flight: r.number()}
	if r.below(2) == 0 {
		l.now = r.about(o.since + l.rtt)
	} else {
		l.rtt = r.about(l.now - o.since)
	}
	if r.below(3) > 0 {
		l.lost = r.number()
	}
	l.up, l.one = r.about(l.flight), r.about(l.flight)
	return l
}

// picks: small numbers, the greatest ones, those of all sizes, and small ones among which the greatest are.
var picks = []func(uint64) uint64{
	func(x uint64) uint64 { return x >> 8 % 3 },
	func(x uint64) uint64 { return x >> 8 % 50 },
	func(x uint64) uint64 { return most - x>>8%4 },
	func(x uint64) uint64 { return x >> (x >> 8 % 64) },
	func(x uint64) uint64 {
		if x>>40%20 == 0 {
			return most - x>>8%50
		}
		return x >> 8 % 50
	},
	func(x uint64) uint64 { return x >> 8 % 3 * (most / 2) },
}

// TestRuns: long mixed runs of Start and Update.
func TestRuns(t *testing.T) {
	for kind, pick := range picks {
		var ended, lasted [api.Phases]int
		for run := range 30 {
			src := &source{uint64(2718281828459045 + 1000*kind + run), pick}
			r := &trial{c: cycle.New()}
			for k := range 2000 {
				before := r.want.phase
				switch {
				case src.below(20) == 0:
					r.start(t, src.number(), int(src.any()))
				case src.below(20) == 0:
					r.start(t, src.about(r.want.since), src.below(40)-20)
				case r.update(t, src.look(&r.want)):
					ended[before]++
				default:
					lasted[before]++
				}
				if t.Failed() {
					t.Fatalf("numbers of kind %d, run %d, step %d", kind, run, k)
				}
			}
		}
		for phase := range api.Phases {
			if ended[phase] < 100 || lasted[phase] < 100 {
				t.Errorf("numbers of kind %d: phase %d ended %d times, lasted %d times: too few to tell", kind, phase, ended[phase], lasted[phase])
			}
		}
	}
}

// TestTime: time goes on, and phases end as they come, round after round, without a Start between.
func TestTime(t *testing.T) {
	for kind, pick := range picks[:2] {
		for run := range 20 {
			src := &source{uint64(1618033988749894 + 1000*kind + run), pick}
			r := &trial{c: cycle.New()}
			now, begun := uint64(0), 0
			for k := range 3000 {
				now += src.number()
				l := src.look(&r.want)
				l.now = now
				if r.update(t, l) {
					begun++
				}
				if r.c.Phase() != begun%api.Phases {
					t.Errorf("P14.1: %d began: phase %d", begun, r.c.Phase())
				}
				if t.Failed() {
					t.Fatalf("numbers of kind %d, run %d, step %d", kind, run, k)
				}
			}
			if begun < 5*api.Phases {
				t.Errorf("numbers of kind %d, run %d: %d began: too few to tell", kind, run, begun)
			}
		}
	}
}

// TestApartRuns: R2: some side by side, each held against its own.
func TestApartRuns(t *testing.T) {
	for kind, pick := range picks {
		src := &source{uint64(1414213562373095 + kind), pick}
		var all [5]*trial
		for i := range all {
			all[i] = &trial{c: cycle.New()}
		}
		for range 4000 {
			r := all[src.below(len(all))]
			if src.below(10) == 0 {
				r.start(t, src.number(), int(src.any()))
			} else {
				r.update(t, src.look(&r.want))
			}
			for _, r := range all {
				r.asked(t)
			}
			if t.Failed() {
				t.Fatalf("numbers of kind %d", kind)
			}
		}
	}
}

// TestEachLook: from each phase, with all numbers of a few.
func TestEachLook(t *testing.T) {
	for _, values := range [][]uint64{{0, 1, 2}, {most - 1, most}, {0, 1 << 63, most}} {
		n := len(values)
		all := n * n * n * n * n * n * n
		for phase := range api.Phases {
			for k := range all {
				var v [7]uint64
				rest := k
				for i := range v {
					v[i] = values[rest%n]
					rest /= n
				}
				r := &trial{c: cycle.New()}
				r.start(t, v[0], phase)
				l := look{v[1], v[2], v[3], v[4], v[5], v[6]}
				r.update(t, l)
				r.update(t, l)
				if t.Failed() {
					t.Fatalf("phase %d since %d", phase, v[0])
				}
			}
		}
	}
}

// TestEachStart: all phases about 0, and about the ends.
func TestEachStart(t *testing.T) {
	r := &trial{c: cycle.New()}
	for n := range 300 {
		for _, phase := range []int{n, -n, 1<<63 - 1 - n, -1<<63 + n, 1<<31 - n, 1<<31 + n, -1<<31 - n, -1<<31 + n, 1<<32 + n, -1<<32 - n} {
			r.start(t, uint64(n), phase)
		}
		if t.Failed() {
			t.FailNow()
		}
	}
}

// TestOneBehindTheOther: what follows: the phase behind an Update is the next one if it answers true, else the same.
func TestOneBehindTheOther(t *testing.T) {
	for kind, pick := range picks {
		for run := range 40 {
			src := &source{uint64(1732050807568877 + 1000*kind + run), pick}
			c := cycle.New()
			c.Start(src.number(), int(src.any()))
			for k := range 300 {
				was := c.Phase()
				next := was
				if c.Update(src.number(), src.number(), src.number(), src.number(), src.number(), src.number()) {
					next = (was + 1) % api.Phases
				}
				if is := c.Phase(); is != next || is < 0 || is >= api.Phases {
					t.Fatalf("what follows: numbers of kind %d, run %d, step %d: phase %d, then %d", kind, run, k, was, is)
				}
			}
		}
	}
}
