package policer_test

import (
	"testing"

	"canter/api"
	"canter/policer"
)

// trial: one, and what it is held against.
type trial struct {
	p    *policer.Policer
	want told
	all  path
}

func fresh() *trial { return &trial{p: policer.New()} }

func (r *trial) update(t *testing.T, l step) {
	t.Helper()
	was := r.want
	r.p.Update(l.start, l.s)
	r.want.update(l)
	r.all = append(r.all, l)
	asked(t, r.p, &r.want)
	if t.Failed() {
		t.Fatalf("P16.1: at %+v: %+v; want %+v", was, l, r.want)
	}
}

// source: numbers of a run, by a short rule, one from the other.
type source struct {
	x    uint64
	pick func(x uint64) uint64
}

func (r *source) any() uint64 {
	r.x ^= r.x << 13
	r.x ^= r.x >> 7
	r.x ^= r.x << 17
	return r.x
}

func (r *source) number() uint64 { return r.pick(r.any()) }

// below: a number below n, whatever the numbers of the run are.
func (r *source) below(n int) int { return int(r.any() >> 16 % uint64(n)) }

// about: a number of the run, or one about v.
func (r *source) about(v uint64) uint64 {
	switch r.below(4) {
	case 0:
		return v - 1
	case 1:
		return v
	case 2:
		return v + 1
	}
	return r.number()
}

// step: numbers of the run; often about the edges of what turns something.
func (r *source) step(o *told) step {
	l := step{r.below(3) > 0, api.Sample{Now: r.number(), Delivered: r.number(), Limited: r.below(40) == 0}}
	if r.below(3) > 0 {
		l.s.Now = o.now + second
	} else if r.below(2) == 0 {
		l.s.Now = r.about(o.now + 1)
	}
	bw := o.bw
	switch r.below(4) {
	case 0:
		bw += r.about(o.bw / 8)
	case 1:
		bw -= r.about(o.bw / 8)
	case 2:
		bw = r.number()
	}
	if r.below(5) > 0 {
		l.s.Delivered = o.delivered + bw
	}
	switch r.below(6) {
	case 0:
		l.s.Lost = r.about(less(plus(o.lost, enough(bw)), o.all))
	case 1:
		l.s.Lost = max(1, less(plus(o.lost, enough(bw)), o.all))
	case 2:
		l.s.Lost = r.number()
	}
	return l
}

// picks: small numbers, Seconds, the greatest ones, those of all sizes, and small ones among which the greatest are.
var picks = []func(uint64) uint64{
	func(x uint64) uint64 { return x >> 8 % 3 },
	func(x uint64) uint64 { return x >> 8 % 30 },
	func(x uint64) uint64 { return x >> 8 % 4 * second },
	func(x uint64) uint64 { return x >> 8 % 1_000_000 },
	func(x uint64) uint64 { return most - x>>8%4 },
	func(x uint64) uint64 { return most - x>>8%4*second - x>>40%3 },
	func(x uint64) uint64 { return x >> (x >> 8 % 64) },
	func(x uint64) uint64 {
		if x>>40%20 == 0 {
			return most - x>>8%50
		}
		return x >> 8 % 50
	},
	func(x uint64) uint64 { return x >> 8 % 3 * (most / 2) },
}

// TestRuns: long mixed runs; each kind of numbers comes in use, and out of it.
func TestRuns(t *testing.T) {
	for kind, pick := range picks {
		in, out := 0, 0
		for run := range 20 {
			src := &source{uint64(2718281828459045 + 1000*kind + run), pick}
			r := fresh()
			for range 2000 {
				if src.below(400) == 0 || r.want.all == most && src.below(60) == 0 { // once all is lost hardly any ends
					stands(t, r.all, r.want)
					r = fresh()
				}
				was := r.want.use
				r.update(t, src.step(&r.want))
				if r.want.use && !was {
					in++
				} else if was && !r.want.use {
					out++
				}
			}
		}
		if in < 20 || out < 8 {
			t.Errorf("numbers of kind %d: in use %d times, out of it %d times: too few to tell", kind, in, out)
		}
	}
}

// link: samples as a path tells them through which no more than a rate goes, with all above it lost; now and then there is too little to send.
func (r *source) link(now, delivered *uint64, rate uint64) step {
	d := uint64(1 + r.below(20))
	*now += d * second / 100
	*delivered += d * rate / 100
	l := step{r.below(4) == 0, api.Sample{Now: *now, Delivered: *delivered, Limited: r.below(200) == 0}}
	if r.below(3) == 0 {
		l.s.Lost = d * rate / 60
	}
	return l
}

// TestLinks: what it tells of a path that is held down is about what that path bears.
func TestLinks(t *testing.T) {
	for _, rate := range []uint64{1000, 125_000, 12_500_000, 1_250_000_000} {
		for run := range 20 {
			src := &source{uint64(1618033988749894 + 1000*int(rate) + run), nil}
			r := fresh()
			var now, delivered uint64
			used := 0
			for range 3000 {
				r.update(t, src.link(&now, &delivered, rate))
				if bw, is := r.p.Use(); is {
					used++
					if apart(bw, rate) > rate/10 {
						t.Fatalf("P16.1: rate %d, run %d: Use %d", rate, run, bw)
					}
				}
			}
			if used < 1000 {
				t.Errorf("rate %d, run %d: in use behind %d of 3000", rate, run, used)
			}
		}
	}
}

// TestApartRuns: R2: some side by side, each held against its own.
func TestApartRuns(t *testing.T) {
	for kind, pick := range picks {
		src := &source{uint64(1414213562373095 + kind), pick}
		var all [5]*trial
		for i := range all {
			all[i] = fresh()
		}
		for range 4000 {
			i := src.below(len(all))
			if src.below(500) == 0 {
				all[i] = fresh()
			}
			all[i].update(t, src.step(&all[i].want))
			for _, r := range all {
				asked(t, r.p, &r.want)
			}
			if t.Failed() {
				t.Fatalf("numbers of kind %d", kind)
			}
		}
	}
}

// states: what one may have come to.
func states() []told {
	l := []told{{}, {all: 600}, {all: most - 1}}
	for _, bw := range []uint64{0, 7, 100} {
		for _, rounds := range []uint64{0, few - 1, few, many} {
			l = append(l, sampling(bw, rounds))
		}
	}
	for _, rounds := range []uint64{0, end - 2, end - 1} {
		l = append(l, told{use: true, bw: 100, rounds: rounds, all: 1000})
	}
	return l
}

// TestEachStep: from each of some states, with all steps of a few numbers.
func TestEachStep(t *testing.T) {
	for _, o := range states() {
		for _, now := range []uint64{0, second, second + 1, 2 * second, most} {
			for _, delivered := range []uint64{0, 1000, 1007, 1100, 1112, 1113, 1700, most} {
				for _, lost := range []uint64{0, 1, 19, 500, most} {
					for _, l := range steps(now, delivered, lost) {
						want := o
						want.update(l)
						comes(t, o, l, want)
					}
				}
			}
		}
	}
}

// TestShortRuns: from each of some states, all short runs of steps of a few.
func TestShortRuns(t *testing.T) {
	l := []step{
		{true, api.Sample{Now: second, Delivered: 1000}}, {false, api.Sample{Now: 2 * second, Delivered: 1100, Lost: 30}}, {true, api.Sample{Now: 2 * second, Delivered: 1100, Lost: 30}},
		{false, api.Sample{Now: 3 * second, Delivered: 1208, Lost: 100}}, {true, api.Sample{Now: 3 * second, Delivered: 1900, Lost: 500}},
		{false, api.Sample{Now: second, Delivered: 1000, Lost: 1}}, {true, api.Sample{Now: second, Limited: true, Lost: 2}}, {true, api.Sample{Lost: most}},
	}
	const long = 3
	all := 1
	for range long {
		all *= len(l)
	}
	for _, o := range states() {
		for k := range all {
			h, want := o.way(), o
			for range long {
				h = h.and(l[k%len(l)])
				want.update(l[k%len(l)])
				k /= len(l)
			}
			stands(t, h, want)
		}
	}
}

// sample: whether the steps of a path behind the i-th, up to the j-th, are a sample, and the bandwidth of it.
func (h path) sample(i, j int) (uint64, bool) {
	from, to := h[i].s, h[j].s
	starts := 0
	for _, l := range h[i+1 : j+1] {
		if l.s.Limited {
			return 0, false
		}
		if l.start {
			starts++
		}
	}
	delivered, time := less(to.Delivered, from.Delivered), less(to.Now, from.Now)
	if starts < few || starts > many || from.Lost == 0 || to.Lost == 0 || delivered == 0 || time == 0 {
		return 0, false
	}
	before := h[:i+1].lost()
	return over(delivered, second, time), less(h[:j+1].lost(), before) >= enough(delivered)
}

// pair: whether there are two samples, one right behind the other, up to the last step, that are near each other, and that is half of both together.
func (h path) pair(half uint64) bool {
	k := len(h) - 1
	for j := range k {
		later, ok := h.sample(j, k)
		if !ok {
			continue
		}
		for i := range j {
			if bw, ok := h.sample(i, j); ok && bw > 0 && apart(later, bw) <= bw/8 && together(later, bw) == half {
				return true
			}
		}
	}
	return false
}

// TestTwoNear: what follows: it comes in use only behind two samples that are near each other, told by the steps alone, and has a bandwidth then; it goes out of it only with the LtMaxRounds-th round behind that.
func TestTwoNear(t *testing.T) {
	for kind, pick := range picks {
		came := 0
		for run := range 30 {
			src := &source{uint64(1732050807568877 + 1000*kind + run), pick}
			r := fresh()
			rounds := 0 // in use
			for range 400 {
				_, was := r.p.Use()
				l := src.step(&r.want)
				r.update(t, l)
				bw, is := r.p.Use()
				if was && l.start {
					rounds++
				}
				if is && !was {
					came++
					rounds = 0
					if bw == 0 || !r.all.pair(bw) {
						t.Fatalf("what follows: numbers of kind %d, run %d: Use %d behind %+v", kind, run, bw, r.all)
					}
				}
				if was && is != (rounds < end) {
					t.Fatalf("what follows: numbers of kind %d, run %d: Use %d, %t behind %d rounds", kind, run, bw, is, rounds)
				}
			}
		}
		if came < 10 {
			t.Errorf("numbers of kind %d: in use %d times: too few to tell", kind, came)
		}
	}
}

// TestAlike: R2: the same steps, the same answers.
func TestAlike(t *testing.T) {
	for kind, pick := range picks {
		src := &source{uint64(2236067977499789 + kind), pick}
		r := fresh()
		for range 1000 {
			r.update(t, src.step(&r.want))
		}
		p := policer.New()
		var o told
		for _, l := range r.all {
			p.Update(l.start, l.s)
			o.update(l)
			asked(t, p, &o)
		}
	}
}
