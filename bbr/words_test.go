package bbr_test

import (
	"math/bits"
	"slices"
	"testing"

	"canter/api"
	"canter/bbr"
	"canter/cycle"
	"canter/pipe"
	"canter/policer"
	"canter/probe"
	"canter/rounds"
	"canter/target"
	"canter/winmax"
)

const (
	most   = 1<<64 - 1
	second = api.Second
	ms     = second / 1000
)

// look: what an Update is handed.
type look struct {
	s   api.Sample
	tso uint64
}

// told: the chapter's words, one by one: what one has come to. The parts are values, so that a copy is another one.
type told struct {
	winmax  winmax.Max
	rounds  rounds.Rounds
	pipe    pipe.Pipe
	cycle   cycle.Cycle
	probe   probe.Probe
	policer policer.Policer

	mss, mode            uint64
	rate, cwnd           uint64
	recovers             bool
	upto                 uint64
	conserves            bool
	was                  uint64
	next                 uint64 // for the runs: what was delivered when the last round began
	began, probed, ended bool   // for the runs: what the last update did
}

func newTold(mss uint64) told {
	if mss < 100 {
		mss = 100
	}
	if mss > 9000 {
		mss = 9000
	}
	return told{
		winmax: *winmax.New(10), rounds: *rounds.New(), pipe: *pipe.New(), cycle: *cycle.New(), probe: *probe.New(), policer: *policer.New(),
		mss: mss, mode: api.Startup, cwnd: 10 * mss, rate: over(10*mss*1000, 739, 256),
	}
}

func (o *told) bw() uint64 {
	if bw, use := o.policer.Use(); use {
		return bw
	}
	return o.winmax.Best()
}

func (o *told) use() bool {
	_, use := o.policer.Use()
	return use
}

func (o *told) gain() uint64 {
	switch {
	case o.mode == api.Startup:
		return 739
	case o.mode == api.Drain:
		return 88
	case o.mode == api.ProbeBw && !o.use():
		return o.cycle.Gain()
	}
	return 256
}

// update: the eight steps.
func (o *told) update(l look) {
	s, tso := l.s, l.tso
	o.began, o.probed, o.ended = false, false, false
	// 1
	start := o.rounds.Update(s)
	if start {
		o.next = s.Delivered
	}
	o.policer.Update(start, s)
	// 2
	if s.Acked > 0 && s.Interval > 0 {
		v := over(less(s.Delivered, s.Prior), second, s.Interval)
		if !(s.Limited && v < o.winmax.Best()) {
			o.winmax.Update(o.rounds.Count(), v)
		}
	}
	// 3
	if o.mode == api.ProbeBw && !o.use() {
		up := target.Bdp(o.winmax.Best(), o.probe.Best(), 320)
		one := target.Bdp(o.winmax.Best(), o.probe.Best(), 256)
		o.cycle.Update(s.Now, o.probe.Best(), s.Lost, s.Flight, up, one)
	}
	// 4
	o.pipe.Update(start, s.Limited, o.winmax.Best())
	if o.mode == api.Startup && o.pipe.Full() {
		o.mode = api.Drain
	}
	if o.mode == api.Drain && o.probe.Best() > 0 && s.Flight <= target.Bdp(o.bw(), o.probe.Best(), 256) {
		o.mode = api.ProbeBw
		o.cycle.Start(s.Now, 2)
	}
	o.probes(start, s)
	// 6
	if o.bw() > 0 {
		r := target.Rate(o.bw(), o.gain())
		if r == 0 {
			r = 1
		}
		if o.pipe.Full() || r > o.rate {
			o.rate = r
		}
	}
	o.recover(start, s)
	o.window(s, tso)
}

// probes: step 5.
func (o *told) probes(start bool, s api.Sample) {
	begins, leaves := o.probe.Update(s.Now, s.Rtt, start, s.Flight, 4*o.mss)
	if begins {
		o.probed = true
		if o.cwnd > o.was {
			o.was = o.cwnd
		}
		o.mode = api.ProbeRtt
	}
	if leaves {
		if o.was > o.cwnd {
			o.cwnd = o.was
		}
		o.was = 0
		if o.pipe.Full() {
			o.mode = api.ProbeBw
			o.cycle.Start(s.Now, 2)
		} else {
			o.mode = api.Startup
		}
	}
}

// recover: step 7.
func (o *told) recover(start bool, s api.Sample) {
	if s.Lost > 0 && !o.recovers {
		o.began = true
		o.recovers = true
		o.upto = plus(s.Delivered, s.Flight)
		o.conserves = true
		if o.cwnd > o.was {
			o.was = o.cwnd
		}
	} else if o.recovers {
		if start {
			o.conserves = false
		}
		if s.Delivered >= o.upto {
			o.ended = true
			o.recovers = false
			o.conserves = false
			if o.mode != api.ProbeRtt {
				if o.was > o.cwnd {
					o.cwnd = o.was
				}
				o.was = 0
			}
		}
	}
}

// window: step 8.
func (o *told) window(s api.Sample, tso uint64) {
	o.cwnd = less(o.cwnd, s.Lost)
	if o.cwnd < o.mss {
		o.cwnd = o.mss
	}
	if o.conserves {
		if way := plus(s.Flight, s.Acked); way > o.cwnd {
			o.cwnd = way
		}
	} else if s.Acked > 0 {
		gain := []uint64{api.Startup: 739, api.Drain: 739, api.ProbeBw: 512, api.ProbeRtt: 256}[o.mode]
		w := target.Window(o.bw(), o.probe.Best(), gain, tso, o.mss)
		if o.pipe.Full() {
			o.cwnd = plus(o.cwnd, s.Acked)
			if w < o.cwnd {
				o.cwnd = w
			}
		} else if o.cwnd < w || s.Delivered < 10*o.mss {
			o.cwnd = plus(o.cwnd, s.Acked)
		}
	}
	if o.cwnd < 4*o.mss || o.mode == api.ProbeRtt {
		o.cwnd = 4 * o.mss
	}
}

// state: what it should tell.
func (o *told) state() api.Model {
	return api.Model{
		Mode: int(o.mode), Phase: o.cycle.Phase(), Rate: o.rate, Cwnd: o.cwnd, Bw: o.bw(), MinRtt: o.probe.Best(),
		Gain: o.gain(), Round: o.rounds.Count(), Full: o.pipe.Full(), LongTerm: o.use(),
	}
}

// plus: the sum; the greatest number, if it is greater.
func plus(a, b uint64) uint64 {
	if a > most-b {
		return most
	}
	return a + b
}

// less: the difference; 0, if it is less.
func less(a, b uint64) uint64 {
	if a > b {
		return a - b
	}
	return 0
}

// over: a times b, divided by c, which is above 0; the greatest number, if it is greater.
func over(a, b, c uint64) uint64 {
	hi, lo := bits.Mul64(a, b)
	if hi >= c {
		return most
	}
	q, _ := bits.Div64(hi, lo, c)
	return q
}

// trial: one, what it is held against, and what it was handed so far.
type trial struct {
	m    *bbr.Model
	want told
	mss  uint64
	all  []look
}

func fresh(mss uint64) *trial { return &trial{m: bbr.New(mss), want: newTold(mss), mss: mss} }

// update: what it answers, held against the words; and so is State, twice.
func (r *trial) update(t *testing.T, l look) api.Model {
	t.Helper()
	was := r.want
	got := r.m.Update(l.s, l.tso)
	r.want.update(l)
	r.all = append(r.all, l)
	want := r.want.state()
	if got != want {
		t.Fatalf("P17.2: at %+v: Update of %+v, %d:\n%+v; want\n%+v", was, l.s, l.tso, got, want)
	}
	r.asked(t)
	return got
}

// asked: whether State is what it should be; asking turns nothing: a second one answers the same.
func (r *trial) asked(t *testing.T) {
	t.Helper()
	want := r.want.state()
	for range 2 {
		if got := r.m.State(); got != want {
			t.Fatalf("P17.2: State:\n%+v; want\n%+v", got, want)
		}
	}
	// What follows.
	if want.Rate == 0 || want.Cwnd < 4*r.want.mss {
		t.Fatalf("what follows: rate %d, window %d", want.Rate, want.Cwnd)
	}
}

// again: another one that was handed the same.
func (r *trial) again() *trial {
	n := fresh(r.mss)
	for _, l := range r.all {
		n.m.Update(l.s, l.tso)
		n.want.update(l)
	}
	n.all = slices.Clone(r.all)
	return n
}

// stands: whether it has come to what the words have, also where State does not tell: by what it tells behind looks that tell it apart.
func (r *trial) stands(t *testing.T) {
	t.Helper()
	for _, tail := range r.tails() {
		n := r.again()
		for _, l := range tail {
			n.update(t, l)
		}
	}
}

// tails: looks by which it is told apart what one has come to.
func (r *trial) tails() [][]look {
	o := &r.want
	last := api.Sample{}
	if len(r.all) > 0 {
		last = r.all[len(r.all)-1].s
	}
	now, got := last.Now, last.Delivered
	quiet := func(d uint64) look { return look{api.Sample{Now: plus(now, d), Delivered: got}, 2000} }
	grown := func(delivered, acked uint64) look {
		return look{api.Sample{Now: now, Delivered: delivered, Acked: acked, Flight: 7_000_000}, 2000}
	}
	trip := func(n uint64) look { // a round starts
		return look{api.Sample{Now: plus(now, n), Delivered: plus(o.next, n), Prior: plus(o.next, n-1), Interval: second, Acked: 1}, 2000}
	}
	l := [][]look{
		{grown(less(o.upto, 1), 1), grown(o.upto, 1), grown(most, 5)},                                                          // it recovers up to there
		{{api.Sample{Now: now, Delivered: got, Lost: 3000, Flight: 500}, 2000}, grown(less(got+500, 1), 1), grown(got+500, 1)}, // it does not recover yet
		{trip(1), grown(less(o.upto, 1), 900), grown(o.upto, 1)},                                                               // it conserves up to that
		{quiet(o.probe.Best()), quiet(o.probe.Best() + 1)},                                                                     // the phase is over
		{quiet(api.MinRttWin - 1), quiet(api.MinRttWin), quiet(api.MinRttWin + 1), quiet(2*api.MinRttWin + 2)},
		{quiet(0), trip(api.ProbeTime - 1), quiet(api.ProbeTime), quiet(api.ProbeTime + 1)}, // it leaves off
	}
	var full, old []look
	for n := range uint64(14) { // the bandwidth grows old, and the pipe full
		full = append(full, trip(n+1))
		held := trip(n + 1)
		held.s.Lost = 1
		old = append(old, held)
	}
	return append(l, full, old)
}
