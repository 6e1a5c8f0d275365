package rounds_test

import (
	"testing"

	"canter/api"
	"canter/rounds"
	"canter/sampler"
)

// told: the chapter's words, one by one.
type told struct{ next, begun uint64 }

func (o *told) update(s api.Sample) bool {
	if s.Acked == 0 {
		return false
	}
	if s.Prior < o.next {
		return false
	}
	o.next = s.Delivered
	o.begun++
	return true
}

// trial: one, and what it is held against.
type trial struct {
	r    *rounds.Rounds
	want told
}

func (p *trial) update(t *testing.T, s api.Sample) bool {
	t.Helper()
	got, want := p.r.Update(s), p.want.update(s)
	if got != want || p.r.Count() != p.want.begun {
		t.Errorf("P11.1: Update(%+v): %t, Count %d; want %t, %d", s, got, p.r.Count(), want, p.want.begun)
	}
	return got
}

// source: numbers of a run, by a short rule, one from the other.
type source struct {
	x    uint64
	pick func(x uint64) uint64
}

func (r *source) any() uint64 {
	r.x ^= r.x << 13
	r.x ^= r.x >> 7
	r.x ^= r.x << 17
	return r.x
}

func (r *source) number() uint64 { return r.pick(r.any()) }

// below: a number below n, whatever the numbers of the run are.
func (r *source) below(n int) int { return int(r.any() >> 16 % uint64(n)) }

func (r *source) sample() api.Sample {
	return api.Sample{Now: r.number(), Delivered: r.number(), Prior: r.number(), Interval: r.number(), Rtt: r.number(), Acked: r.number(), Lost: r.number(), Flight: r.number(), Limited: r.below(2) == 0}
}

// TestRuns: long mixed runs, with small numbers, with the greatest ones, with those of all sizes, and with small ones among which the greatest are; a Prior is often at the edge of next.
func TestRuns(t *testing.T) {
	for kind, pick := range []func(uint64) uint64{
		func(x uint64) uint64 { return x >> 8 % 3 },
		func(x uint64) uint64 { return x >> 8 % 50 },
		func(x uint64) uint64 { return most - x>>8%4 },
		func(x uint64) uint64 { return x >> (x >> 8 % 64) },
		func(x uint64) uint64 {
			if x>>40%20 == 0 {
				return most - x>>8%50
			}
			return x >> 8 % 50
		},
		func(x uint64) uint64 { return x >> 8 % 3 * (most / 2) },
	} {
		for run := range 40 {
			src := &source{uint64(2718281828459045 + 1000*kind + run), pick}
			p := &trial{r: rounds.New()}
			for k := range 500 {
				s := src.sample()
				switch src.below(6) {
				case 0:
					s.Acked = 0
				case 1:
					s.Prior = p.want.next
				case 2:
					s.Prior = p.want.next - 1
				case 3:
					s.Prior = p.want.next + 1
				}
				p.update(t, s)
				if t.Failed() {
					t.Fatalf("numbers of kind %d, run %d, step %d", kind, run, k)
				}
			}
		}
	}
}

// TestEachRun: all short runs of samples with small numbers.
func TestEachRun(t *testing.T) {
	const length, values = 4, 3
	const kinds = 2 * values * values
	runs := 1
	for range length {
		runs *= kinds
	}
	for run := range runs {
		p := &trial{r: rounds.New()}
		rest := run
		for range length {
			kind := uint64(rest % kinds)
			p.update(t, api.Sample{Acked: kind % 2, Prior: kind / 2 % values, Delivered: kind / 2 / values})
			rest /= kinds
		}
		if t.Failed() {
			t.Fatalf("run %d", run)
		}
	}
}

// TestTrip: one is sent a tick, and acknowledged a round trip behind that: each round is a trip long, and has one trip's worth.
func TestTrip(t *testing.T) {
	for _, size := range []uint64{1, 1500, 1 << 40} {
		for trip := 1; trip <= 40; trip++ {
			p := &trial{r: rounds.New()}
			s := sampler.New()
			var way []api.Sent
			var flight, began uint64 // began: what was delivered when the round began
			const trips = 12
			for tick := range trips * trip {
				now := uint64(1000 + tick)
				if tick >= trip {
					s.Acked(now, size, way[tick-trip])
					flight -= size
					x := s.Take(now, 0, flight)
					start := p.update(t, x)
					if start != (tick%trip == 0) {
						t.Errorf("a trip of %d: at tick %d: %t", trip, tick, start)
					}
					if start {
						if worth := x.Delivered - began; tick > trip && worth != size*uint64(trip) {
							t.Errorf("a trip of %d: at tick %d: the round had %d; want %d", trip, tick, worth, size*uint64(trip))
						}
						began = x.Delivered
					}
				}
				way = append(way, s.Sent(now, flight))
				flight += size
			}
			count(t, p.r, trips-1)
			if t.Failed() {
				t.FailNow()
			}
		}
	}
}

// sending: one that is under way, and how many rounds had begun when it was sent.
type sending struct {
	size  uint64
	sent  api.Sent
	begun uint64
}

// TestPath: what follows: as a sampler tells it, in any order, now and then more than one at once, or none: a round ends with the first sample by which something is acknowledged that was sent in it.
func TestPath(t *testing.T) {
	for run := range 100 {
		src := &source{uint64(1414213562373095 + run), func(x uint64) uint64 { return x >> 8 % 1500 }}
		p := &trial{r: rounds.New()}
		s := sampler.New()
		var way []sending
		var now, flight uint64
		for k := range 600 {
			now += src.number()
			if src.below(2) == 0 {
				size := src.number() + 1
				way = append(way, sending{size, s.Sent(now, flight), p.r.Count()})
				flight += size
				continue
			}
			want := false
			for range min(src.below(4), len(way)) {
				i := 0
				if run%2 == 1 {
					i = src.below(len(way))
				}
				a := way[i]
				way = append(way[:i], way[i+1:]...)
				s.Acked(now, a.size, a.sent)
				flight -= a.size
				want = want || a.begun == p.r.Count()
			}
			if got := p.update(t, s.Take(now, 0, flight)); got != want {
				t.Errorf("what follows: %t; want %t", got, want)
			}
			if t.Failed() {
				t.Fatalf("run %d, step %d", run, k)
			}
		}
	}
}
