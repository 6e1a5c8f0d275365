package bbr_test

import (
	"testing"

	"canter/api"
	"canter/bbr"
	"canter/target"
)

// source: numbers of a run, by a short rule, one from the other.
type source struct {
	x    uint64
	pick func(x uint64) uint64
}

func (r *source) any() uint64 {
	r.x ^= r.x << 13
	r.x ^= r.x >> 7
	r.x ^= r.x << 17
	return r.x
}

func (r *source) number() uint64 { return r.pick(r.any()) }

// below: a number below n, whatever the numbers of the run are.
func (r *source) below(n uint64) uint64 { return r.any() >> 16 % n }

// one: of those.
func (r *source) one(l ...uint64) uint64 { return l[r.below(uint64(len(l)))] }

// about: one about v.
func (r *source) about(v uint64) uint64 { return r.one(less(v, 1), v, plus(v, 1)) }

// picks: small numbers, times, the greatest ones, those of all sizes.
var picks = []func(uint64) uint64{
	func(x uint64) uint64 { return x >> 8 % 3 },
	func(x uint64) uint64 { return x >> 8 % 30_000 },
	func(x uint64) uint64 { return x >> 8 % 300 * 100 * ms },
	func(x uint64) uint64 { return most - x>>8%4 },
	func(x uint64) uint64 { return most - x>>8%30_000 },
	func(x uint64) uint64 { return x >> (x >> 8 % 64) },
	func(x uint64) uint64 { return x >> 8 % 3 * (most / 2) },
}

// Moods of a road.
const (
	calm = iota
	noisy
	lossy
	idle
)

// Traits of a road: of one that is crowded more is under way than it holds; one that grows is never full.
const (
	plain = iota
	crowded
	growing
	traits
)

// road: a path whose samples are as a sender's, but for those in which something else is told.
type road struct {
	*source
	*trial
	now, delivered uint64
	rate, rtt      uint64
	trait          uint64
	mood, left     uint64
}

func (r *road) anew() {
	r.trial = fresh(r.one(0, 100, 1000, 1460, 9000, most))
	r.now, r.delivered, r.left = 0, 0, 0
	r.trait = r.below(traits)
}

// step: a quarter of a round trip, or more.
func (r *road) step() look {
	if r.left == 0 {
		r.mood, r.left = r.one(calm, noisy, lossy, lossy, idle), 10+r.below(50)
	}
	r.left--
	d := 1 + r.rtt/4*(1+r.below(6))
	if r.mood == idle || r.want.mode == api.Drain && r.below(12) == 0 { // else it hardly ever begins from there
		d = plus(d, r.one(0, 0, api.ProbeTime-r.rtt/2, api.MinRttWin-r.rtt/2, api.MinRttWin+1))
	}
	got := over(r.rate, d, second)
	r.now, r.delivered = plus(r.now, d), plus(r.delivered, got)
	s := api.Sample{Now: r.now, Delivered: r.delivered, Prior: less(r.want.next, r.below(2)), Rtt: r.one(0, r.rtt, r.rtt, r.rtt+1), Acked: r.one(0, 1, got, got, got), Limited: r.mood != lossy && r.below(12) == 0}
	rate := r.rate
	if r.trait == growing {
		rate = over(rate, 1<<min(63, r.want.rounds.Count()/2), 1)
	}
	v := r.one(rate, rate, rate, rate/2, plus(rate, rate/2), rate/8)
	s.Interval = over(less(s.Delivered, s.Prior), second, max(1, v))
	s.Flight = r.flight()
	switch {
	case r.mood == lossy && r.below(3) == 0:
		s.Lost = 1 + got*2
	case r.mood != calm && r.below(20) == 0:
		s.Lost = r.one(1, got, less(r.want.cwnd, r.want.mss), most)
	}
	if r.mood == noisy {
		r.disturb(&s)
	}
	return look{s, r.one(0, 1, 2*r.want.mss, 65_536)}
}

// flight: often about what turns something.
func (r *road) flight() uint64 {
	bw, best := r.want.bw(), r.want.probe.Best()
	if r.trait == crowded && r.want.mode == api.Drain && r.below(60) > 0 {
		return plus(plus(target.Bdp(bw, best, 256), 1), r.below(2)*r.want.cwnd)
	}
	switch r.below(6) {
	case 0:
		return r.about(target.Bdp(bw, best, 320))
	case 1:
		return r.about(target.Bdp(bw, best, 256))
	case 2:
		return r.about(4 * r.want.mss)
	case 3:
		return plus(r.want.cwnd, r.want.mss)
	}
	return r.one(0, r.want.mss, less(r.want.cwnd, r.want.mss))
}

// disturb: another number in some place; often about what turns something.
func (r *road) disturb(s *api.Sample) {
	places := []*uint64{&s.Now, &s.Delivered, &s.Prior, &s.Interval, &s.Rtt, &s.Acked, &s.Lost, &s.Flight}
	switch r.below(8) {
	case 0, 1, 2:
		*places[r.below(uint64(len(places)))] = r.number()
	case 3:
		s.Delivered = r.about(r.want.upto)
	case 4:
		s.Delivered = r.about(10 * r.want.mss)
	case 5: // about the best
		s.Limited = true
		if best := r.want.winmax.Best(); best > 0 {
			s.Prior, s.Interval = less(s.Delivered, r.about(best)), second
		}
	case 6:
		for _, p := range places {
			if r.below(2) == 0 {
				*p = r.number()
			}
		}
	}
}

// seen: how often what came up.
type seen struct {
	modes, began, ended, probed, held [4]int
	used, left                        int
}

func (c *seen) note(was, is *told) {
	c.modes[is.mode]++
	if is.began {
		c.began[is.mode]++
	}
	if is.ended {
		c.ended[is.mode]++
	}
	if is.probed {
		c.probed[was.mode]++
	}
	if is.use() {
		c.held[is.mode]++
		if !was.use() {
			c.used++
		}
	} else if was.use() {
		c.left++
	}
}

// enough: whether all came up often enough to tell.
func (c *seen) enough(few int) bool {
	for mode := range 4 {
		if c.modes[mode] < 10*few || c.began[mode] < few || c.ended[mode] < few || c.held[mode] < few || mode != api.ProbeRtt && c.probed[mode] < few {
			return false
		}
	}
	return c.used >= few && c.left >= few
}

// rates, and round trips, of roads.
var (
	rates = []uint64{5, 1000, 1_250_000, 1_250_000_000, 1 << 44, 1 << 56}
	trips = []uint64{1, 10 * ms, 40 * ms, second}
)

// TestRuns: long mixed runs, with numbers of each kind.
func TestRuns(t *testing.T) {
	for kind, pick := range picks {
		var c seen
		for i, rate := range rates {
			for k, rtt := range trips {
				r := &road{source: &source{uint64(2718281828459045 + 1000*kind + 100*i + k), pick}, rate: rate, rtt: rtt}
				r.anew()
				for range 3000 {
					if r.below(250) == 0 {
						if r.below(4) == 0 {
							r.stands(t)
						}
						r.anew()
					}
					was := r.want
					r.update(t, r.step())
					c.note(&was, &r.want)
				}
			}
		}
		if !c.enough(20) {
			t.Errorf("numbers of kind %d: %+v: too few to tell", kind, c)
		}
	}
}

// TestNumbers: samples of nothing but numbers of one kind: there is always a rate, and a window of the floor at least.
func TestNumbers(t *testing.T) {
	for kind, pick := range picks {
		src := &source{uint64(3141592653589793 + kind), pick}
		for _, mss := range []uint64{0, 100, 1460, 9000, most} {
			r := fresh(mss)
			for range 3000 {
				if src.below(100) == 0 {
					r = fresh(mss)
				}
				s := api.Sample{Now: src.number(), Delivered: src.number(), Prior: src.number(), Interval: src.number(), Rtt: src.number(), Acked: src.number(), Lost: src.number(), Flight: src.number(), Limited: src.below(4) == 0}
				if src.below(2) == 0 {
					s.Lost = 0
				}
				r.update(t, look{s, src.number()})
			}
		}
	}
}

// TestApartRuns: R2: some side by side, each held against its own.
func TestApartRuns(t *testing.T) {
	for kind, pick := range picks {
		src := &source{uint64(1414213562373095 + kind), pick}
		var all [4]*road
		for i := range all {
			all[i] = &road{source: src, rate: rates[i+1], rtt: trips[i]}
			all[i].anew()
		}
		for range 2000 {
			all[src.below(4)].update(t, all[0].some(all[:]))
			for _, r := range all {
				r.asked(t)
			}
		}
	}
}

// some: a step of one of those, for any.
func (r *road) some(all []*road) look { return all[r.below(uint64(len(all)))].step() }

// TestAlike: R2: the same samples, the same answers.
func TestAlike(t *testing.T) {
	for kind, pick := range picks {
		r := &road{source: &source{uint64(2236067977499789 + kind), pick}, rate: rates[kind%len(rates)], rtt: trips[kind%len(trips)]}
		r.anew()
		var said []api.Model
		for range 1000 {
			said = append(said, r.update(t, r.step()))
		}
		m := bbr.New(r.mss)
		for i, l := range r.all {
			if got := m.Update(l.s, l.tso); got != said[i] {
				t.Fatalf("P17.2: %+v behind %d samples; %+v ahead of that", got, i+1, said[i])
			}
		}
	}
}

// TestShortRuns: from each of some states, all short runs of samples of a few.
func TestShortRuns(t *testing.T) {
	states := map[string]func(t *testing.T) *line{
		"new":               func(t *testing.T) *line { return opened() },
		"Startup":           func(t *testing.T) *line { return started(t, 2) },
		"nearly full":       func(t *testing.T) *line { return started(t, 3) },
		"Drain":             drains,
		"ProbeBw":           cruises,
		"up":                func(t *testing.T) *line { return phase(t, 0) },
		"down":              func(t *testing.T) *line { return phase(t, 1) },
		"probes":            func(t *testing.T) *line { return started(t, 2).probes(t) },
		"probes, full":      func(t *testing.T) *line { return phase(t, 1).probes(t) },
		"held down":         func(t *testing.T) *line { return policed(t, false) },
		"held down, full":   func(t *testing.T) *line { return policed(t, true) },
		"held down, probes": func(t *testing.T) *line { return policed(t, true).probes(t) },
	}
	for name, at := range states {
		p := at(t)
		looks := p.looks()
		all := len(looks) * len(looks) * len(looks)
		for k := range all {
			n := p.again()
			for range 3 {
				n.update(t, looks[k%len(looks)])
				k /= len(looks)
			}
		}
		if t.Failed() {
			t.Fatalf("from %s", name)
		}
	}
}

// looks: some that turn something, each about the edges of it.
func (p *line) looks() []look {
	next := p.want.next
	return []look{
		{api.Sample{Now: p.now, Delivered: p.delivered, Lost: 30_000, Flight: 50_000}, tso},
		{api.Sample{Now: p.now + 1, Delivered: p.delivered + 50_000, Prior: next, Acked: 9000, Interval: trip, Flight: 90_000}, tso},
		{api.Sample{Now: p.now + trip + 1, Delivered: p.delivered + 50_001, Prior: next - 1, Acked: 70_000, Rtt: trip / 2, Flight: 125_000}, 0},
		{api.Sample{Now: p.now + trip + 2, Delivered: p.delivered + 2*size, Prior: next, Acked: 1, Interval: trip / 3, Lost: 500, Flight: 4000}, tso},
		{api.Sample{Now: p.now + api.ProbeTime + 1, Delivered: p.delivered + 9, Prior: next, Acked: 9, Flight: 3000, Limited: true}, tso},
		{api.Sample{Now: p.now + api.ProbeTime + trip + 2, Delivered: p.delivered + 60_000, Prior: most, Acked: 1, Flight: 5 * size}, 9000},
		{api.Sample{Now: p.now + api.MinRttWin + 1, Delivered: p.delivered + 1, Rtt: trip + 1, Lost: 3, Flight: size}, tso},
		{api.Sample{Now: p.now + 2*api.MinRttWin + 2, Delivered: p.delivered, Prior: next, Acked: 100, Lost: most, Flight: 4001}, tso},
	}
}
