package bbr_test

import (
	"testing"

	"canter/api"
	"canter/bbr"
)

// The path of most tests: mss 1000, 10,000,000 bytes a second, 10 ms: it holds 100,000; windows have 3 times 2000 beside that.
const (
	rate = 10_000_000
	trip = 10 * ms
	size = 100_000
	tso  = 2000
)

// line: a path that is told by samples of a round trip each, in which all that it holds is delivered.
type line struct {
	*trial
	now, delivered uint64
	flight         uint64
	bw             uint64
}

// opened: nothing was told yet.
func opened() *line { return &line{trial: fresh(1000), flight: 5 * size, bw: rate} }

// round: one, with that lost; a round of rounds starts with it.
func (p *line) round(t *testing.T, lost uint64) api.Model {
	t.Helper()
	prior := p.delivered
	got := p.bw * trip / second
	p.now += trip
	p.delivered += got
	return p.update(t, look{api.Sample{Now: p.now, Delivered: p.delivered, Prior: prior, Interval: trip, Rtt: trip, Acked: got, Lost: lost, Flight: p.flight}, tso})
}

// started: n rounds, 3 at most, in Startup.
func started(t *testing.T, n int) *line {
	t.Helper()
	p := opened()
	for range n {
		p.round(t, 0)
	}
	return p
}

// drains: at 40 ms, with 400,000 delivered.
func drains(t *testing.T) *line {
	t.Helper()
	p := started(t, 4)
	p.tells(t, api.Model{Mode: api.Drain, Rate: 3_437_500, Cwnd: 294_671, Bw: rate, MinRtt: trip, Gain: api.DrainGain, Round: 4, Full: true})
	return p
}

// cruises: at 50 ms, with 500,000 delivered; phase 2 since then.
func cruises(t *testing.T) *line {
	t.Helper()
	p := drains(t)
	p.flight = size
	p.round(t, 0)
	p.tells(t, api.Model{Mode: api.ProbeBw, Phase: 2, Rate: rate, Cwnd: 206_000, Bw: rate, MinRtt: trip, Gain: api.Unit, Round: 5, Full: true})
	return p
}

// phase: at the beginning of that phase of ProbeBw.
func phase(t *testing.T, n int) *line {
	t.Helper()
	p := cruises(t)
	for p.m.State().Phase != n {
		p.wait(t, trip+1, api.Sample{Flight: 125_000})
	}
	return p
}

// probes: begins to look for the least round trip from there, which is as it was.
func (p *line) probes(t *testing.T) *line {
	t.Helper()
	flight := p.flight
	p.flight = 5 * size
	p.wait(t, api.MinRttWin+1, api.Sample{Rtt: trip})
	p.flight = flight
	if got := p.m.State(); got.Mode != api.ProbeRtt || got.Cwnd != 4000 || got.Gain != api.Unit {
		t.Fatalf("P17.2: it does not probe: %+v", got)
	}
	return p
}

// wait: a sample so much later, by which nothing more is delivered.
func (p *line) wait(t *testing.T, d uint64, s api.Sample) api.Model {
	t.Helper()
	p.now += d
	s.Now, s.Delivered = p.now, p.delivered
	if s.Flight == 0 {
		s.Flight = p.flight
	}
	return p.update(t, look{s, tso})
}

// tells: all of what State tells, worked out by hand.
func (r *trial) tells(t *testing.T, want api.Model) {
	t.Helper()
	if got := r.m.State(); got != want {
		t.Fatalf("P17.2: behind %+v:\n%+v; want\n%+v", r.all, got, want)
	}
}

// copied: another one that was handed the same.
func (p *line) copied() *line {
	n := *p
	n.trial = p.again()
	return &n
}

// sent: a sample of the path, as it is, that comes to want.
func (r *trial) sent(t *testing.T, s api.Sample, want api.Model) {
	t.Helper()
	if got := r.update(t, look{s, tso}); got != want {
		t.Fatalf("P17.2: Update of %+v:\n%+v; want\n%+v", s, got, want)
	}
}

func TestNew(t *testing.T) {
	for _, r := range []struct{ mss, held, cwnd, rate uint64 }{
		{0, 100, 1000, 2_886_718}, {1, 100, 1000, 2_886_718}, {99, 100, 1000, 2_886_718}, {100, 100, 1000, 2_886_718}, {101, 101, 1010, 2_915_585},
		{1000, 1000, 10_000, 28_867_187}, {1460, 1460, 14_600, 42_146_093},
		{8999, 8999, 89_990, 259_775_820}, {9000, 9000, 90_000, 259_804_687}, {9001, 9000, 90_000, 259_804_687}, {1 << 63, 9000, 90_000, 259_804_687}, {most, 9000, 90_000, 259_804_687},
	} {
		p := fresh(r.mss)
		want := api.Model{Mode: api.Startup, Rate: r.rate, Cwnd: r.cwnd, Gain: api.HighGain}
		p.tells(t, want)
		p.asked(t)
		p.stands(t)
		// A sample of nothing turns nothing.
		p.sent(t, api.Sample{}, want)
		p.stands(t)
		// Its mss, by the floor.
		want.Cwnd = 4 * r.held
		p.sent(t, api.Sample{Lost: most}, want)
		if t.Failed() {
			t.Fatalf("P17.1: New(%d)", r.mss)
		}
	}
}

// TestExample: 1.
func TestExample(t *testing.T) {
	if got := bbr.New(1000).State(); got.Mode != api.Startup || got.Cwnd != 10_000 {
		t.Errorf("P17.1: example 1: %+v", got)
	}
}

// TestNotMade: R1: one that New did not make.
func TestNotMade(t *testing.T) {
	for _, x := range []uint64{0, 1, 1000, most} {
		var m bbr.Model
		for _, y := range []uint64{0, 1, 1 << 63, most} {
			for range 3 {
				s := api.Sample{Now: y, Delivered: x, Prior: y, Interval: x, Rtt: y, Acked: x, Lost: y, Flight: x}
				if got := m.Update(s, y); got != m.State() {
					t.Errorf("P17.2: Update: %+v; State: %+v", got, m.State())
				}
			}
		}
	}
}

func TestNil(t *testing.T) {
	var none *bbr.Model
	for _, x := range []uint64{0, 1, 1000, most} {
		for _, y := range []uint64{0, 1, 2000, most} {
			s := api.Sample{Now: x, Delivered: y, Prior: y, Interval: x, Rtt: x, Acked: y, Lost: x, Flight: y}
			if got := none.Update(s, x); got != (api.Model{}) {
				t.Errorf("P17.2: nil: Update of %+v, %d: %+v", s, x, got)
			}
			if got := none.State(); got != (api.Model{}) {
				t.Errorf("P17.2: nil: State: %+v", got)
			}
		}
	}
}

// TestApart: R2: what is done with one is not to be seen in another.
func TestApart(t *testing.T) {
	a, b := cruises(t), opened()
	b.tells(t, api.Model{Rate: 28_867_187, Cwnd: 10_000, Gain: api.HighGain})
	b.bw = rate / 10
	for range 4 {
		b.round(t, 0)
	}
	a.tells(t, api.Model{Mode: api.ProbeBw, Phase: 2, Rate: rate, Cwnd: 206_000, Bw: rate, MinRtt: trip, Gain: api.Unit, Round: 5, Full: true})
	b.tells(t, api.Model{Mode: api.Drain, Rate: 343_750, Cwnd: 34_867, Bw: rate / 10, MinRtt: trip, Gain: api.DrainGain, Round: 4, Full: true})
	a.probes(t)
	b.asked(t)
	b.stands(t)
	a.asked(t)
	a.stands(t)
}

// TestSample: R3: the sample that is handed in stays as it was.
func TestSample(t *testing.T) {
	m := bbr.New(1000)
	for n := range uint64(20) {
		s := api.Sample{Now: n * trip, Delivered: n * size, Prior: n * 3, Interval: trip, Rtt: trip, Acked: 5, Lost: n % 3, Flight: n, Limited: n%5 == 0}
		was := s
		m.Update(s, n)
		if s != was {
			t.Errorf("P17.2: %+v; it was %+v", s, was)
		}
	}
}
