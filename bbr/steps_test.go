package bbr_test

import (
	"testing"

	"canter/api"
)

// TestStartPipe: step 1: with the round that starts the pipe is full; the same without it is no round.
func TestStartPipe(t *testing.T) {
	p := started(t, 3)
	want := api.Model{Rate: 28_867_187, Cwnd: 310_000, Bw: rate, MinRtt: trip, Gain: api.HighGain, Round: 3}
	p.tells(t, want)
	s := api.Sample{Now: 40 * ms, Delivered: 4 * size, Prior: 3*size - 1, Acked: 1, Flight: 5 * size}
	for range 9 { // sent ahead of the round: none starts
		p.sent(t, s, want)
	}
	s.Prior, s.Acked = 3*size, 0
	for range 9 { // nothing is acknowledged: none starts
		p.sent(t, s, want)
	}
	p.stands(t)
	s.Acked = 1
	p.sent(t, s, api.Model{Mode: api.Drain, Rate: 3_437_500, Cwnd: 294_671, Bw: rate, MinRtt: trip, Gain: api.DrainGain, Round: 4, Full: true})
	p.stands(t)
	// One that was limited does not count for it.
	p = started(t, 3)
	s.Limited = true
	want.Round = 4
	p.sent(t, s, want)
	p.stands(t)
}

// TestStartProbe: step 1: with the round that starts it leaves off, in the same Update.
func TestStartProbe(t *testing.T) {
	for _, r := range []struct {
		d      uint64
		start  bool
		leaves bool
	}{{api.ProbeTime + 1, true, true}, {api.ProbeTime + 1, false, false}, {api.ProbeTime, true, false}, {api.ProbeTime - 1, true, false}} {
		p := cruises(t).probes(t)
		p.flight = 4000
		p.wait(t, 0, api.Sample{}) // now it waits
		s := api.Sample{Acked: 1, Prior: 5*size - 1}
		if r.start {
			s.Prior++
		}
		got := p.wait(t, r.d, s)
		// The phase that it was in went by as it began to probe.
		want := api.Model{Mode: api.ProbeRtt, Phase: 3, Rate: rate, Cwnd: 4000, Bw: rate, MinRtt: trip, Gain: api.Unit, Round: 5, Full: true}
		if r.start {
			want.Round = 6
		}
		left := want
		left.Mode, left.Phase, left.Cwnd = api.ProbeBw, 2, 206_000
		if r.leaves {
			want = left
		}
		if got != want {
			t.Errorf("P17.2: %+v: %+v; want %+v", r, got, want)
		}
		p.stands(t)
		// A round that was seen is seen later on, too.
		got = p.wait(t, 2, api.Sample{})
		if r.start {
			want = left
		}
		if got != want {
			t.Errorf("P17.2: %+v, and later: %+v; want %+v", r, got, want)
		}
		p.stands(t)
	}
}

// held: two samples of a policer, but for the last look of the second one, which is handed back: with it it is in use at 104.
func held(t *testing.T) (*trial, api.Sample) {
	t.Helper()
	r := fresh(1000)
	r.update(t, look{api.Sample{Now: 2 * second, Delivered: 200, Lost: 10}, tso})
	ends := func(now, delivered, lost uint64) api.Sample {
		for range 3 {
			s := api.Sample{Now: now - 1, Delivered: delivered - 100, Prior: r.want.next, Acked: 1}
			r.update(t, look{s, tso})
		}
		return api.Sample{Now: now, Delivered: delivered, Prior: r.want.next, Acked: 1, Lost: lost}
	}
	r.update(t, look{ends(6*second, 600, 78), tso}) // 400 in 4 Seconds; 400 * 50 / 256 is 78
	return r, ends(10*second, 1034, 84)             // 434 in 4 Seconds; 434 * 50 / 256 is 84
}

// TestStartPolicer: step 1: with the round that starts the policer is in use, in the same Update.
func TestStartPolicer(t *testing.T) {
	for _, r := range []struct {
		prior, acked, lost uint64
		is                 bool
	}{{0, 1, 84, true}, {0, 1, 85, true}, {0, 1, 83, false}, {0, 0, 84, false}, {1, 1, 84, false}} {
		p, s := held(t)
		s.Prior -= r.prior
		s.Acked, s.Lost = r.acked, r.lost
		got := p.update(t, look{s, tso})
		if got.LongTerm != r.is || r.is && got.Bw != 104 || !r.is && got.Bw != 0 {
			t.Errorf("P17.2: %+v: %+v", r, got)
		}
		p.stands(t)
	}
}

// TestStartConserves: step 1: with the round that starts it does not conserve, in the same Update.
func TestStartConserves(t *testing.T) {
	for _, start := range []bool{false, true} {
		p := started(t, 2) // Cwnd 210000
		p.wait(t, 0, api.Sample{Lost: 100_000, Flight: 1_000_000})
		want := api.Model{Rate: 28_867_187, Cwnd: 1_000_000, Bw: rate, MinRtt: trip, Gain: api.HighGain, Round: 2}
		p.tells(t, want)
		s := api.Sample{Acked: 50, Prior: 2*size - 1, Flight: 2_000_000}
		want.Cwnd = 2_000_050
		if start { // at w already
			s.Prior++
			want.Cwnd, want.Round = 1_000_000, 3
		}
		if got := p.wait(t, 0, s); got != want {
			t.Errorf("P17.2: start %t: %+v; want %+v", start, got, want)
		}
		p.stands(t)
	}
}

// TestBandwidth: step 2: v, worked out by hand, of a new one, and of one that has a bandwidth.
func TestBandwidth(t *testing.T) {
	for _, r := range []struct{ acked, interval, delivered, prior, v uint64 }{
		{0, 1, 5, 0, 0}, {1, 0, 5, 0, 0}, {0, 0, 5, 0, 0}, {1, 1, 5, 0, 5 * second}, {most, 1, 5, 0, 5 * second}, {0, second, most, 0, 0}, {most, 0, most, 0, 0},
		{1, second, 5, 4, 1}, {1, second, 5, 5, 0}, {1, second, 5, 6, 0}, {1, 1, 5, 6, 0}, {1, 1, 0, most, 0}, {1, 1, 0, 1, 0}, {1, 1, most, most, 0}, {1, 1, most, most - 1, second},
		{1, second, 1000, 100, 900}, {1, 2 * second, 5, 0, 2}, {1, second + 1, 5, 0, 4}, {1, second - 1, 5, 0, 5}, {1, 5*second + 1, 5, 0, 0}, {1, 3, 1, 0, 333_333_333},
		{1, second, most, 0, most}, {1, second, most, 1, most - 1}, {1, second - 1, most, 0, most}, {1, second + 1, most, 0, 18_446_744_055_262_807_559}, {1, 1, most, 0, most},
		{1, most, most, 0, second}, {1, most, most, 1, second - 1}, {1, most, 1, 0, 0}, {1, 1, 18_446_744_073, 0, 18_446_744_073_000_000_000}, {1, 1, 18_446_744_074, 0, most},
	} {
		s := api.Sample{Delivered: r.delivered, Prior: r.prior, Interval: r.interval, Acked: r.acked}
		p := fresh(1000)
		if got := p.update(t, look{s, tso}); got.Bw != r.v {
			t.Errorf("P17.2: %+v: Bw %d", r, got.Bw)
		}
		p.stands(t)
		for _, best := range []uint64{1, 50, 1000} {
			p = fresh(1000)
			p.update(t, look{api.Sample{Delivered: best, Interval: second, Acked: 1}, tso})
			if got := p.update(t, look{s, tso}); got.Bw != max(best, r.v) {
				t.Errorf("P17.2: %+v behind %d: Bw %d", r, best, got.Bw)
			}
			p.stands(t)
		}
	}
}

// rounds: up to that Round, each tells that bandwidth.
func (r *trial) rounds(t *testing.T, upto, bw uint64, limited bool) {
	t.Helper()
	for r.want.rounds.Count() < upto {
		s := api.Sample{Delivered: r.want.next + 10_000, Prior: r.want.next, Interval: 10_000 * second / bw, Acked: 1, Limited: limited}
		r.update(t, look{s, tso})
	}
}

// bw: whether that is its bandwidth.
func (r *trial) bw(t *testing.T, want uint64) {
	t.Helper()
	if got := r.m.State().Bw; got != want {
		t.Fatalf("P17.2: behind round %d: Bw %d; want %d", r.m.State().Round, got, want)
	}
}

// TestLimited: step 2: what is limited counts just if it is no less than the best: to be seen when the best grows old, too.
func TestLimited(t *testing.T) {
	for _, limited := range []bool{true, false} {
		for _, r := range []struct {
			v        uint64
			now, old uint64 // the bandwidth behind it, and when the first one is too old
			free     uint64 // that, if it is not limited
		}{{999, 1000, 1, 999}, {1000, 1000, 1000, 1000}, {1001, 1001, 1001, 1001}, {0, 1000, 1, 0}, {most, most, most, most}} {
			p := fresh(1000)
			p.rounds(t, 1, 1000, false)
			p.rounds(t, 3, 1, true)
			next := p.want.next
			s := api.Sample{Delivered: next + r.v, Prior: next, Acked: 1, Interval: second, Limited: limited}
			if r.v == most {
				s.Delivered, s.Interval = most, 1
			}
			p.update(t, look{s, tso})
			p.bw(t, r.now)
			p.stands(t)
			if r.v == most { // no more than that is ever delivered
				continue
			}
			p.rounds(t, 11, 1, true)
			p.bw(t, r.now)
			p.rounds(t, 12, 1, false)
			switch {
			case limited:
				p.bw(t, r.old)
			case r.v == 0:
				p.bw(t, 1)
			default:
				p.bw(t, r.free)
			}
		}
	}
	// A new one: nothing is less than its best.
	p := fresh(1000)
	p.rounds(t, 1, 7, true)
	p.bw(t, 7)
	p.stands(t)
}

// TestBwRounds: step 2: the window is of rounds: BwRounds of them, however many samples, and however much time, they have.
func TestBwRounds(t *testing.T) {
	for _, many := range []int{0, 3, 40} {
		p := fresh(1000)
		p.rounds(t, 1, 1000, false)
		for n := uint64(2); n <= 11; n++ {
			p.rounds(t, n, 10, false)
			p.bw(t, 1000)
			for k := range many { // in which no round starts
				next := p.want.next
				p.update(t, look{api.Sample{Now: uint64(k) * second / 100, Delivered: next + 9, Prior: next - 1, Interval: second, Acked: 1}, tso})
				p.bw(t, 1000)
			}
		}
		p.stands(t)
		p.rounds(t, 12, 10, false)
		p.bw(t, 10)
		p.stands(t)
	}
}

// TestCycle: step 3: phases as they come, with each one's gain and rate.
func TestCycle(t *testing.T) {
	p := cruises(t)
	want := api.Model{Mode: api.ProbeBw, Phase: 2, Rate: rate, Cwnd: 206_000, Bw: rate, MinRtt: trip, Gain: api.Unit, Round: 5, Full: true}
	for _, next := range []int{3, 4, 5, 6, 7, 0} {
		p.wait(t, trip, api.Sample{}) // not over
		p.tells(t, want)
		p.wait(t, 1, api.Sample{})
		want.Phase = next
		if next == 0 {
			want.Gain, want.Rate = api.UpGain, 12_500_000
		}
		p.tells(t, want)
		p.stands(t)
	}
	up := want
	want.Phase, want.Gain, want.Rate = 1, api.DownGain, 7_500_000
	for _, r := range []struct {
		d, lost, flight uint64
		is              bool
	}{{trip, 1, 125_000, false}, {trip + 1, 0, 124_999, false}, {trip + 1, 0, 125_000, true}, {trip + 1, 0, 125_001, true}, {trip + 1, 1, 1, true}, {most / 2, 0, 124_999, false}} {
		q := p.copied()
		down := want
		if !r.is {
			down = up
		}
		if r.lost > 0 {
			down.Cwnd-- // it conserves
		}
		if got := q.wait(t, r.d, api.Sample{Lost: r.lost, Flight: r.flight}); got != down {
			if r.d < most/2 || got.Phase != 0 { // so late that it probes
				t.Errorf("P17.2: up: %+v: %+v; want %+v", r, got, down)
			}
		}
		q.stands(t)
	}
	p.wait(t, trip+1, api.Sample{Flight: 125_000})
	p.tells(t, want)
	along := want
	along.Phase, along.Gain, along.Rate = 2, api.Unit, rate
	for _, r := range []struct {
		d, flight uint64
		is        bool
	}{{1, 99_999, true}, {1, 100_000, true}, {1, 100_001, false}, {trip, 100_001, false}, {trip + 1, 100_001, true}} {
		q := p.copied()
		next := along
		if !r.is {
			next = want
		}
		if got := q.wait(t, r.d, api.Sample{Flight: r.flight}); got != next {
			t.Errorf("P17.2: down: %+v: %+v; want %+v", r, got, next)
		}
		q.stands(t)
	}
}

// TestCycleTargets: step 3: the targets are of the bandwidth that the same sample tells, and of the round trip that was known ahead of it.
func TestCycleTargets(t *testing.T) {
	for _, r := range []struct {
		phase       int
		rtt, flight uint64
		next        bool
	}{
		{0, trip, 249_999, false}, {0, trip, 250_000, true}, {0, trip, 125_000, false}, // 20,000,000 a second
		{0, trip / 2, 249_999, false}, {0, trip / 2, 250_000, true}, {0, trip / 2, 125_000, false},
		{1, trip, 200_000, true}, {1, trip, 200_001, false}, {1, trip, 100_000, true}, {1, trip / 2, 200_000, true}, {1, trip / 2, 200_001, false},
	} {
		p := phase(t, r.phase)
		d := trip * uint64(1-r.phase)
		got := p.wait(t, d+1, api.Sample{Prior: p.delivered - 2*size, Interval: trip, Rtt: r.rtt, Acked: 1, Flight: r.flight})
		if next := got.Phase != r.phase; next != r.next || got.Bw != 2*rate || got.MinRtt != r.rtt {
			t.Errorf("P17.2: %+v: %+v", r, got)
		}
		p.stands(t)
	}
	// Over by the round trip that was known ahead of the sample.
	p := cruises(t)
	if got := p.wait(t, trip, api.Sample{Rtt: trip / 2}); got.Phase != 2 || got.MinRtt != trip/2 {
		t.Errorf("P17.2: %+v", got)
	}
	p.stands(t)
	if got := p.wait(t, 0, api.Sample{}); got.Phase != 3 {
		t.Errorf("P17.2: and behind it: %+v", got)
	}
	p.stands(t)
}

// TestCycleAlone: step 3: in ProbeBw alone.
func TestCycleAlone(t *testing.T) {
	for name, p := range map[string]*line{"new": opened(), "Startup": started(t, 3), "Drain": drains(t), "ProbeRtt ahead of a full pipe": started(t, 3).probes(t), "ProbeRtt from Drain": drains(t).probes(t)} {
		for n := range uint64(20) {
			if got := p.wait(t, n*second/4, api.Sample{Lost: n % 2, Flight: 5 * size, Rtt: trip}); got.Phase != 0 {
				t.Errorf("P17.2: %s: %+v", name, got)
			}
		}
		p.stands(t)
	}
	for n := range api.Phases { // while it probes
		p := phase(t, n).probes(t)
		at := p.m.State().Phase
		for range 20 {
			if got := p.wait(t, second, api.Sample{Lost: 1, Flight: 5 * size}); got.Phase != at || got.Gain != api.Unit {
				t.Errorf("P17.2: ProbeRtt from phase %d: %+v", n, got)
			}
		}
		p.stands(t)
	}
}

// TestDrain: step 4: Startup to Drain, and right on; Drain, till what is under way is what the path holds.
func TestDrain(t *testing.T) {
	drain := api.Model{Mode: api.Drain, Rate: 3_437_500, Cwnd: 294_671, Bw: rate, MinRtt: trip, Gain: api.DrainGain, Round: 4, Full: true}
	along := api.Model{Mode: api.ProbeBw, Phase: 2, Rate: rate, Cwnd: 206_000, Bw: rate, MinRtt: trip, Gain: api.Unit, Round: 4, Full: true}
	for flight, is := range map[uint64]bool{0: true, 99_999: true, 100_000: true, 100_001: false, 5 * size: false, most: false} {
		want := drain
		if is {
			want = along
		}
		p := started(t, 3) // right on, in the same Update
		p.flight = flight
		p.round(t, 0)
		p.tells(t, want)
		p.since(t, is)
		p = drains(t)
		p.flight = flight
		want.Cwnd = 294_671 // nothing is acknowledged
		if got := p.wait(t, 7, api.Sample{}); got != want {
			t.Errorf("P17.2: Drain with %d: %+v; want %+v", flight, got, want)
		}
		p.since(t, is)
		p.stands(t)
	}
}

// since: in ProbeBw, phase 2 is since the last sample; else it does not go on.
func (p *line) since(t *testing.T, is bool) {
	t.Helper()
	q := p.copied()
	q.flight = 5 * size
	at := 0
	if is {
		at = 2
	}
	if got := q.wait(t, trip, api.Sample{}); got.Phase != at {
		t.Errorf("P17.2: a round trip later: %+v", got)
	}
	if is {
		at = 3
	}
	if got := q.wait(t, 1, api.Sample{}); got.Phase != at {
		t.Errorf("P17.2: more than a round trip later: %+v", got)
	}
	q.stands(t)
}

// TestDrainBw: step 4: the target is of the bandwidth that the same sample tells.
func TestDrainBw(t *testing.T) {
	for flight, is := range map[uint64]bool{199_999: true, 200_000: true, 200_001: false} {
		p := drains(t)
		got := p.wait(t, 1, api.Sample{Prior: p.delivered - 2*size, Interval: trip, Acked: 1, Flight: flight})
		if (got.Mode == api.ProbeBw) != is || got.Bw != 2*rate {
			t.Errorf("P17.2: %d: %+v", flight, got)
		}
		p.stands(t)
	}
}

// TestDrainNoTrip: step 4: with no round trip yet it stays Drain; one that comes counts from the next Update on.
func TestDrainNoTrip(t *testing.T) {
	p := fresh(1000)
	for n := range uint64(9) {
		got := p.update(t, look{api.Sample{Now: n, Delivered: (n + 1) * size, Prior: n * size, Interval: trip, Acked: 1}, tso})
		if n >= 3 && (got.Mode != api.Drain || got.MinRtt != 0 || got.Cwnd != 10_000) { // w: InitSegs times mss
			t.Fatalf("P17.2: with no round trip: %+v", got)
		}
	}
	s := api.Sample{Now: 9, Delivered: 9 * size, Rtt: trip}
	want := api.Model{Mode: api.Drain, Rate: 3_437_500, Cwnd: 10_000, Bw: rate, MinRtt: trip, Gain: api.DrainGain, Round: 9, Full: true}
	p.sent(t, s, want)
	p.stands(t)
	want.Mode, want.Phase, want.Gain, want.Rate = api.ProbeBw, 2, api.Unit, rate
	p.sent(t, s, want)
	p.stands(t)
}
