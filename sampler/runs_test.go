package sampler_test

import (
	"math/big"
	"testing"

	"canter/api"
	"canter/sampler"
)

// next: a short rule that tells numbers of all sizes, one from the other.
func next(x uint64) uint64 {
	x ^= x << 13
	x ^= x >> 7
	return x ^ x<<17
}

// sum and less: by numbers of any length, held from 0 to 2^64 - 1.
func sum(l ...uint64) uint64 {
	all := new(big.Int)
	for _, v := range l {
		all.Add(all, new(big.Int).SetUint64(v))
	}
	if !all.IsUint64() {
		return most
	}
	return all.Uint64()
}

func less(a, b uint64) uint64 {
	if a > b {
		return a - b
	}
	return 0
}

// one: an Acked.
type one struct {
	now, size uint64
	sent      api.Sent
}

// told: the chapter's words, one by one, over all that was acknowledged: in all, and since the last Take.
type told struct {
	sizes                []uint64
	deliveredAt, firstAt uint64
	mark                 uint64
	since                []one
}

func (o *told) delivered() uint64 { return sum(o.sizes...) }

// newest: of what was acknowledged since the last Take, the last one that had the most Delivered.
func newest(l []one) int {
	place := 0
	for i := range l {
		if l[i].sent.Delivered >= l[place].sent.Delivered {
			place = i
		}
	}
	return place
}

func (o *told) sent(now, flight uint64) api.Sent {
	if flight == 0 {
		o.firstAt, o.deliveredAt = now, now
	}
	return api.Sent{At: now, Delivered: o.delivered(), DeliveredAt: o.deliveredAt, FirstAt: o.firstAt, Limited: o.mark != 0}
}

func (o *told) acked(a one) {
	o.sizes = append(o.sizes, a.size)
	o.deliveredAt = a.now
	if o.delivered() > o.mark {
		o.mark = 0
	}
	o.since = append(o.since, a)
	if newest(o.since) == len(o.since)-1 {
		o.firstAt = a.sent.At
	}
}

func (o *told) take(now, lost, flight uint64) api.Sample {
	x := api.Sample{Now: now, Delivered: o.delivered(), Lost: lost, Flight: flight}
	if len(o.since) > 0 {
		for _, a := range o.since {
			x.Acked = sum(x.Acked, a.size)
		}
		n := o.since[newest(o.since)]
		x.Prior, x.Limited, x.Rtt = n.sent.Delivered, n.sent.Limited, less(n.now, n.sent.At)
		x.Interval = max(less(n.sent.At, n.sent.FirstAt), less(now, n.sent.DeliveredAt))
	}
	o.since = nil
	return x
}

func (o *told) limit(flight uint64) {
	o.mark = max(sum(o.delivered(), flight), 1)
}

// trial: one, what it is held against, and what was delivered at the last look.
type trial struct {
	s    *sampler.Sampler
	want told
	last uint64
}

// look: Delivered, which never falls.
func (p *trial) look(t *testing.T) {
	t.Helper()
	v, want := p.s.Delivered(), p.want.delivered()
	if v != want {
		t.Errorf("P10.1: Delivered: %d; want %d", v, want)
	}
	if v < p.last {
		t.Errorf("what follows: %d is delivered; it was %d", v, p.last)
	}
	p.last = v
}

func (p *trial) sent(t *testing.T, now, flight uint64) api.Sent {
	t.Helper()
	return sent(t, p.s, now, flight, p.want.sent(now, flight))
}

func (p *trial) acked(a one) {
	p.s.Acked(a.now, a.size, a.sent)
	p.want.acked(a)
}

func (p *trial) take(t *testing.T, now, lost, flight uint64) {
	t.Helper()
	take(t, p.s, now, lost, flight, p.want.take(now, lost, flight))
}

func (p *trial) limit(flight uint64) {
	p.s.Limit(flight)
	p.want.limit(flight)
}

// source: numbers of a run.
type source struct {
	x    uint64
	pick func(x uint64) uint64
}

func (r *source) number() uint64 {
	r.x = next(r.x)
	return r.pick(r.x)
}

// below: a number below n, whatever the numbers of the run are.
func (r *source) below(n int) int {
	r.x = next(r.x)
	return int(r.x >> 16 % uint64(n))
}

func (r *source) anySent() api.Sent {
	return api.Sent{At: r.number(), Delivered: r.number(), DeliveredAt: r.number(), FirstAt: r.number(), Limited: r.below(2) == 0}
}

// step: any call; what Sent answered is kept in way, and comes back in any order, now and then twice.
func (p *trial) step(t *testing.T, r *source, way []api.Sent) []api.Sent {
	t.Helper()
	switch r.below(10) {
	case 0, 1, 2:
		flight := r.number()
		if r.below(4) == 0 {
			flight = 0
		}
		way = append(way, p.sent(t, r.number(), flight))
	case 3, 4, 5:
		if len(way) == 0 {
			break
		}
		i := r.below(len(way))
		p.acked(one{r.number(), r.number(), way[i]})
		if r.below(8) > 0 {
			way = append(way[:i], way[i+1:]...)
		}
	case 6, 7:
		p.acked(one{r.number(), r.number(), r.anySent()})
	case 8:
		p.limit(r.number())
	default:
		p.take(t, r.number(), r.number(), r.number())
	}
	p.look(t)
	return way
}

// TestRuns: long mixed runs, with small numbers, with the greatest ones, with those of all sizes, and with small ones among which the greatest are.
func TestRuns(t *testing.T) {
	for kind, pick := range []func(uint64) uint64{
		func(x uint64) uint64 { return x >> 8 % 4 },
		func(x uint64) uint64 { return x >> 8 % 50 },
		func(x uint64) uint64 { return most - x>>8%4 },
		func(x uint64) uint64 { return x >> (x >> 8 % 64) },
		func(x uint64) uint64 {
			if x>>40%100 == 0 {
				return most - x>>8%50
			}
			return x >> 8 % 50
		},
		func(x uint64) uint64 { return x >> 8 % 3 * (most / 2) },
	} {
		for run := range 40 {
			r := &source{uint64(2718281828459045 + 1000*kind + run), pick}
			p := &trial{s: sampler.New()}
			var way []api.Sent
			for k := range 400 {
				way = p.step(t, r, way)
				if t.Failed() {
					t.Fatalf("numbers of kind %d, run %d, step %d", kind, run, k)
				}
			}
		}
	}
}

// TestPath: runs as a path gives them: time goes on, what is sent is acknowledged in order, now and then two at once, or all.
func TestPath(t *testing.T) {
	for run := range 60 {
		r := &source{uint64(1414213562373095 + run), func(x uint64) uint64 { return x >> 8 % 1500 }}
		p := &trial{s: sampler.New()}
		var way []one // what is under way
		var now, flight uint64
		for k := range 300 {
			now += r.number()
			switch r.below(5) {
			case 0, 1:
				size := r.number() + 1
				way = append(way, one{size: size, sent: p.sent(t, now, flight)})
				flight += size
			case 2, 3:
				n := min(r.below(3)+1, len(way))
				if r.below(12) == 0 {
					n = len(way)
				}
				for _, a := range way[:n] {
					p.acked(one{now, a.size, a.sent})
					flight -= a.size
				}
				way = way[n:]
				p.take(t, now, 0, flight)
			default:
				p.limit(flight)
			}
			p.look(t)
			if t.Failed() {
				t.Fatalf("run %d, step %d", run, k)
			}
		}
	}
}

// TestEachRun: all short runs of Acked with small Delivered and sizes, with a Take or none between, and a Limit ahead.
func TestEachRun(t *testing.T) {
	const length, kinds = 5, 7 // Delivered of 0 to 2 with a size of 0 or 1; a Take
	runs := 1
	for range length {
		runs *= kinds
	}
	for mark := range uint64(3) {
		for run := range runs {
			p := &trial{s: sampler.New()}
			p.limit(mark)
			rest := run
			for k := range uint64(length) {
				if kind := uint64(rest % kinds); kind == 6 {
					p.take(t, 20+k, k, 1)
				} else {
					p.acked(one{10 + k, kind / 3, api.Sent{At: 2 * k, Delivered: kind % 3, DeliveredAt: 9 - k, FirstAt: k, Limited: k%2 == 0}})
				}
				p.sent(t, k, 1)
				p.look(t)
				rest /= kinds
			}
			p.take(t, 30, 0, 0)
			if t.Failed() {
				t.Fatalf("Limit(%d), run %d", mark, run)
			}
		}
	}
}
