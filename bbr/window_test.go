package bbr_test

import (
	"testing"

	"canter/api"
)

// leaves: it leaves off to probe: waits, and a round starts, by which nothing but a byte is acknowledged.
func (p *line) leaves(t *testing.T) api.Model {
	t.Helper()
	p.flight = 4000
	p.wait(t, 0, api.Sample{})
	if got := p.wait(t, api.ProbeTime, api.Sample{Acked: 1, Prior: p.want.next}); got.Mode != api.ProbeRtt {
		t.Fatalf("P17.2: it leaves off too early: %+v", got)
	}
	got := p.wait(t, 1, api.Sample{})
	if got.Mode == api.ProbeRtt {
		t.Fatalf("P17.2: it does not leave off: %+v", got)
	}
	return got
}

// TestProbe: step 5: it begins to probe from each mode, not ahead of its time; it leaves off, and the window comes back.
func TestProbe(t *testing.T) {
	for name, r := range map[string]struct {
		at          *line
		mode, phase int
		rate, cwnd  uint64
	}{
		"Startup": {started(t, 2), api.Startup, 0, 28_867_187, 210_000},
		"Drain":   {drains(t), api.ProbeBw, 2, rate, 294_671},
		"ProbeBw": {cruises(t), api.ProbeBw, 2, rate, 206_000},
		"up":      {phase(t, 0), api.ProbeBw, 2, rate, 206_000},
		"down":    {phase(t, 1), api.ProbeBw, 2, rate, 206_000},
	} {
		p := r.at
		p.flight = 5 * size
		p.wait(t, 0, api.Sample{Rtt: trip}) // as low as the best: the stamp is now
		p.stands(t)
		was := p.m.State()
		got := p.wait(t, api.MinRttWin, api.Sample{})
		if got.Mode != was.Mode || got.Cwnd != was.Cwnd {
			t.Errorf("P17.2: %s: ahead of its time: %+v", name, got)
		}
		got = p.wait(t, 1, api.Sample{Rtt: 2 * trip})
		if want := (api.Model{Mode: api.ProbeRtt, Phase: got.Phase, Rate: r.rate, Cwnd: 4000, Bw: rate, MinRtt: 2 * trip, Gain: api.Unit, Round: was.Round, Full: was.Full}); got != want {
			t.Errorf("P17.2: %s: it begins to probe: %+v; want %+v", name, got, want)
		}
		p.stands(t)
		got = p.leaves(t)
		gain := uint64(api.Unit)
		if r.mode == api.Startup {
			gain = api.HighGain
		}
		if want := (api.Model{Mode: r.mode, Phase: r.phase, Rate: r.rate, Cwnd: r.cwnd, Bw: rate, MinRtt: 2 * trip, Gain: gain, Round: was.Round + 1, Full: was.Full}); got != want {
			t.Errorf("P17.2: %s: it leaves off: %+v; want %+v", name, got, want)
		}
		p.stands(t)
		// The phase is since then.
		if got = p.wait(t, 2*trip, api.Sample{}); got.Phase != r.phase {
			t.Errorf("P17.2: %s: a round trip later: %+v", name, got)
		}
		if got = p.wait(t, 1, api.Sample{}); r.mode == api.ProbeBw && got.Phase != 3 {
			t.Errorf("P17.2: %s: more than a round trip later: %+v", name, got)
		}
	}
}

// TestProbeFloor: step 5: it waits once the floor is under way.
func TestProbeFloor(t *testing.T) {
	for flight, is := range map[uint64]bool{0: true, 3999: true, 4000: true, 4001: false} {
		p := cruises(t).probes(t)
		p.flight = flight
		p.wait(t, 0, api.Sample{})
		got := p.wait(t, api.ProbeTime+1, api.Sample{Acked: 1, Prior: p.want.next})
		if (got.Mode == api.ProbeBw) != is {
			t.Errorf("P17.2: %d under way: %+v", flight, got)
		}
		p.stands(t)
	}
}

// TestProbeFull: step 5: where it leaves to hangs on the pipe as it is then: it may be full by then.
func TestProbeFull(t *testing.T) {
	for _, n := range []int{2, 3} {
		p := started(t, n).probes(t)
		if got := p.m.State(); got.Full {
			t.Fatalf("P17.2: %+v", got)
		}
		p.flight = 4000
		p.wait(t, 0, api.Sample{})
		got := p.wait(t, api.ProbeTime+1, api.Sample{Acked: 1, Prior: p.want.next})
		want := api.Model{Mode: api.Startup, Rate: 28_867_187, Cwnd: 210_001, Bw: rate, MinRtt: trip, Gain: api.HighGain, Round: 3}
		if n == 3 {
			want = api.Model{Mode: api.ProbeBw, Phase: 2, Rate: rate, Cwnd: 206_000, Bw: rate, MinRtt: trip, Gain: api.Unit, Round: 4, Full: true}
		}
		if got != want {
			t.Errorf("P17.2: behind %d rounds: %+v; want %+v", n, got, want)
		}
		p.stands(t)
		p.since(t, n == 3)
	}
	// Full ahead of that: the mode stays while it probes.
	p := started(t, 3).probes(t)
	got := p.wait(t, 0, api.Sample{Acked: 1, Prior: p.want.next, Flight: 5 * size})
	if want := (api.Model{Mode: api.ProbeRtt, Rate: rate, Cwnd: 4000, Bw: rate, MinRtt: trip, Gain: api.Unit, Round: 4, Full: true}); got != want {
		t.Errorf("P17.2: full while it probes: %+v; want %+v", got, want)
	}
	p.stands(t)
	if got = p.leaves(t); got.Mode != api.ProbeBw || got.Phase != 2 {
		t.Errorf("P17.2: it leaves off: %+v", got)
	}
	p.since(t, true)
}

// TestProbeWas: step 5: what Cwnd was is the greater one of what it was and Cwnd; it is 0 behind that.
func TestProbeWas(t *testing.T) {
	// It was 210,000; it is 150,000 as it begins to probe.
	p := started(t, 2)
	p.wait(t, 0, api.Sample{Lost: 60_000, Flight: 100_000})
	if got := p.m.State().Cwnd; got != 150_000 {
		t.Fatalf("P17.2: Cwnd %d", got)
	}
	p.probes(t)
	p.stands(t)
	if got := p.leaves(t); got.Cwnd != 210_000 {
		t.Errorf("P17.2: the greater one was: %+v", got)
	}
	p.stands(t)
	// It was 210,000, and grows while it recovers.
	p = started(t, 2)
	p.wait(t, 0, api.Sample{Lost: 10_000, Flight: 100_000})
	p.wait(t, 0, api.Sample{Acked: 50_000, Prior: p.want.next, Flight: 1})
	if got := p.m.State().Cwnd; got != 250_000 {
		t.Fatalf("P17.2: Cwnd %d", got)
	}
	p.probes(t)
	p.stands(t)
	if got := p.leaves(t); got.Cwnd != 250_000 {
		t.Errorf("P17.2: the greater one is: %+v", got)
	}
	p.stands(t)
	// What it was is 0 behind that: the end of recovering brings back nothing.
	p.wait(t, 0, api.Sample{Lost: 50_000})
	p.delivered += 100_000
	if got := p.wait(t, 0, api.Sample{}); got.Cwnd != 200_000 {
		t.Errorf("P17.2: it was 0: %+v", got)
	}
	p.stands(t)
}

// TestGain: step 6: the gain and the rate of each mode, also behind what turns the mode in the same Update.
func TestGain(t *testing.T) {
	for _, r := range []struct {
		at         *line
		gain, rate uint64
	}{
		{opened(), 739, 28_867_187}, {started(t, 3), 739, 28_867_187}, {drains(t), 88, 3_437_500}, {phase(t, 0), 320, 12_500_000}, {phase(t, 1), 192, 7_500_000},
		{phase(t, 2), 256, rate}, {phase(t, 3), 256, rate}, {phase(t, 4), 256, rate}, {phase(t, 5), 256, rate}, {phase(t, 6), 256, rate}, {phase(t, 7), 256, rate},
		{started(t, 3).probes(t), 256, 28_867_187}, {drains(t).probes(t), 256, rate}, {phase(t, 0).probes(t), 256, rate}, {phase(t, 1).probes(t), 256, rate},
	} {
		if got := r.at.m.State(); got.Gain != r.gain || got.Rate != r.rate {
			t.Errorf("P17.2: %+v; want %d, %d", got, r.gain, r.rate)
		}
	}
}

// TestRate: step 6: ahead of a full pipe the rate only rises: bandwidths about what it is.
func TestRate(t *testing.T) {
	for _, r := range []struct{ bw, rate uint64 }{
		{0, 28_867_187}, {1, 28_867_187}, {9_999_999, 28_867_187}, {10_000_000, 28_867_187}, {10_000_001, 28_867_190}, {20_000_000, 57_734_375},
		{1 << 56, 739 << 48}, {6_390_211_749_485_311_519, most - 4}, {6_390_211_749_485_311_520, most - 1}, {6_390_211_749_485_311_521, most}, {1 << 63, most}, {most, most},
	} {
		p := fresh(1000)
		s := api.Sample{Delivered: r.bw, Interval: second, Acked: 1}
		if got := p.update(t, look{s, tso}); got.Bw != r.bw || got.Rate != r.rate {
			t.Errorf("P17.2: %d: %+v", r.bw, got)
		}
		p.stands(t)
	}
	// It does not fall with the bandwidth.
	p := fresh(1000)
	p.rounds(t, 1, 20_000_000, false)
	p.rounds(t, 11, 100, true)
	p.rounds(t, 12, 1_000_000, false)
	if got := p.m.State(); got.Bw != 1_000_000 || got.Rate != 57_734_375 || got.Full {
		t.Errorf("P17.2: %+v", got)
	}
	p.stands(t)
	// Nor while it probes, ahead of a full pipe; but it rises.
	q := started(t, 2).probes(t)
	for _, r := range []struct{ times, rate uint64 }{{1, 28_867_187}, {2, 28_867_187}, {3, 30_000_000}, {5, 50_000_000}} {
		if got := q.wait(t, 0, api.Sample{Prior: q.delivered - r.times*size/5, Interval: trip / 5, Acked: 1, Flight: 5 * size}); got.Bw != r.times*rate || got.Rate != r.rate || got.Mode != api.ProbeRtt {
			t.Errorf("P17.2: while it probes: %+v; want %d", got, r.rate)
		}
		q.stands(t)
	}
}

// TestRateLeast: step 6: with a full pipe it is r, which is 1 at least.
func TestRateLeast(t *testing.T) {
	for _, r := range []struct{ bw, drain, down uint64 }{{1, 1, 1}, {2, 1, 1}, {3, 1, 2}, {5, 1, 3}, {6, 2, 4}, {100, 34, 75}} {
		p := fresh(1000)
		p.rounds(t, 4, 1000, false)
		p.rounds(t, 15, r.bw, false)
		if got := p.m.State(); got.Mode != api.Drain || got.Bw != r.bw || got.Rate != r.drain {
			t.Errorf("P17.2: Drain: %+v; want %d", got, r.drain)
		}
		p.stands(t)
		at := p.all[len(p.all)-1].s
		for n := range uint64(8) { // phase 2 to phase 1; it goes on behind the round trip of 1
			p.update(t, look{api.Sample{Now: 1 + 2*n, Delivered: at.Delivered, Rtt: 1, Lost: 1, Flight: 0}, tso})
		}
		p.update(t, look{api.Sample{Now: 17, Delivered: at.Delivered, Lost: 1, Flight: 9}, tso})
		if got := p.m.State(); got.Mode != api.ProbeBw || got.Phase != 1 || got.Bw != r.bw || got.Rate != r.down {
			t.Errorf("P17.2: down: %+v; want %d", got, r.down)
		}
		p.stands(t)
	}
	// With no bandwidth the rate stays.
	p := fresh(1000)
	p.rounds(t, 4, 1000, false)
	for range 11 {
		next := p.want.next
		p.update(t, look{api.Sample{Delivered: next, Prior: next, Interval: 1, Acked: 1}, tso})
	}
	if got := p.m.State(); got.Bw != 0 || !got.Full || got.Rate != 343 {
		t.Errorf("P17.2: no bandwidth: %+v", got)
	}
	p.stands(t)
}

// TestLoss: step 7: up to what was delivered and is under way: then the window comes back; not ahead of that.
func TestLoss(t *testing.T) {
	for _, r := range []struct {
		delivered uint64 // behind the loss, with 30,000 under way
		cwnd      uint64
	}{{0, 150_000}, {29_999, 150_000}, {30_000, 210_000}, {30_001, 210_000}} {
		p := started(t, 2)
		p.flight = 1000
		p.wait(t, 0, api.Sample{Lost: 60_000, Flight: 30_000})
		p.stands(t)
		p.delivered += r.delivered
		if got := p.wait(t, 0, api.Sample{}); got.Cwnd != r.cwnd {
			t.Errorf("P17.2: %+v: %+v", r, got)
		}
		p.stands(t)
	}
	// Its own number: more under way later on, or another loss, does not turn it, nor what the window was.
	p := started(t, 2)
	p.wait(t, 0, api.Sample{Lost: 60_000, Flight: 30_000})
	p.delivered += 29_999
	if got := p.wait(t, 0, api.Sample{Lost: 1000, Flight: 90_000}); got.Cwnd != 149_000 {
		t.Errorf("P17.2: another loss: %+v", got)
	}
	p.stands(t)
	p.delivered++
	if got := p.wait(t, 0, api.Sample{Lost: 500, Flight: 9000}); got.Cwnd != 209_500 { // it comes back, and is less by what is lost right then
		t.Errorf("P17.2: it ends with a loss: %+v", got)
	}
	p.stands(t)
	// It does not recover now: the next loss begins anew.
	if got := p.wait(t, 0, api.Sample{Lost: 500, Flight: 300_000}); got.Cwnd != 300_000 {
		t.Errorf("P17.2: it begins anew: %+v", got)
	}
	p.stands(t)
}

// TestLossMost: step 7: the number is cut at the greatest one.
func TestLossMost(t *testing.T) {
	for _, r := range []struct {
		at, flight, upto uint64
	}{{most, 0, most}, {most, 1, most}, {most, most, most}, {most - 5, 5, most}, {most - 5, 6, most}, {most - 5, 4, most - 1}, {0, most, most}, {1, most, most}, {1 << 63, 1 << 63, most}} {
		p := fresh(1000)
		p.update(t, look{api.Sample{Delivered: r.at, Lost: 3000, Flight: r.flight}, tso})
		p.stands(t)
		p.update(t, look{api.Sample{Acked: 1, Prior: most}, tso}) // a round
		was := p.m.State().Cwnd
		if got := p.update(t, look{api.Sample{Delivered: r.upto - 1}, tso}); got.Cwnd != was {
			t.Errorf("P17.2: %+v: ahead of it: %+v", r, got)
		}
		p.stands(t)
		if got := p.update(t, look{api.Sample{Delivered: r.upto}, tso}); got.Cwnd != max(was, 10_000) {
			t.Errorf("P17.2: %+v: at it: %+v", r, got)
		}
		p.stands(t)
		// It does not recover now.
		if got := p.update(t, look{api.Sample{Delivered: 7, Lost: 1, Flight: most - 1}, tso}); got.Cwnd != most-1 {
			t.Errorf("P17.2: %+v: and behind it: %+v", r, got)
		}
	}
}

// TestLossStart: step 7: a start ends conserving, not recovering; nor does it where recovering begins with it.
func TestLossStart(t *testing.T) {
	p := started(t, 2)
	want := api.Model{Rate: 28_867_187, Cwnd: 300_009, Bw: rate, MinRtt: trip, Gain: api.HighGain, Round: 3}
	p.sent(t, api.Sample{Now: 30 * ms, Delivered: 2 * size, Prior: 2 * size, Acked: 9, Lost: 60_000, Flight: 300_000}, want) // a start
	p.stands(t)
	want.Cwnd = 400_009 // it conserves
	p.sent(t, api.Sample{Now: 30 * ms, Delivered: 2 * size, Prior: 2*size - 1, Acked: 9, Flight: 400_000}, want)
	p.stands(t)
	want.Round = 4 // a start: not any more; and it is full
	want.Mode, want.Gain, want.Rate, want.Full, want.Cwnd = api.Drain, api.DrainGain, 3_437_500, true, 294_671
	p.sent(t, api.Sample{Now: 30 * ms, Delivered: 2*size + 5, Prior: 2 * size, Acked: 9, Flight: 500_000}, want)
	p.stands(t)
	want.Cwnd = 200_000 // it recovers, so it does not begin to conserve
	p.sent(t, api.Sample{Now: 30 * ms, Delivered: 2*size + 5, Lost: 94_671, Flight: 500_000}, want)
	p.stands(t)
	want.Cwnd = 210_000 // it was
	p.sent(t, api.Sample{Now: 30 * ms, Delivered: 5 * size, Flight: 500_000}, want)
	p.stands(t)
}

// TestLossEnd: step 7: where recovering ends it does not conserve, without a round too.
func TestLossEnd(t *testing.T) {
	p := started(t, 2)
	p.wait(t, 0, api.Sample{Lost: 60_000, Flight: 300_000}) // 300,000
	p.delivered += 300_000
	if got := p.wait(t, 0, api.Sample{Flight: 7_000_000}); got.Cwnd != 300_000 {
		t.Errorf("P17.2: it conserves: %+v", got)
	}
	p.stands(t)
	// And in the ways that a window grows else.
	p = started(t, 1)
	p.wait(t, 0, api.Sample{Lost: 50_000, Flight: 30_000}) // 60,000; it was 110,000
	p.delivered += 30_000
	if got := p.wait(t, 0, api.Sample{Acked: 700, Flight: 7_000_000}); got.Cwnd != 110_700 {
		t.Errorf("P17.2: it conserves: %+v", got)
	}
	p.stands(t)
}

// TestLossProbe: step 7: in ProbeRtt what Cwnd was stays, where recovering ends, and where it begins.
func TestLossProbe(t *testing.T) {
	p := started(t, 2)
	p.wait(t, 0, api.Sample{Lost: 60_000, Flight: 30_000}) // 150,000; it was 210,000
	p.probes(t)
	p.delivered += 30_000
	if got := p.wait(t, 0, api.Sample{Flight: 500_000}); got.Cwnd != 4000 {
		t.Errorf("P17.2: it probes: %+v", got)
	}
	p.stands(t)
	if got := p.leaves(t); got.Cwnd != 210_000 {
		t.Errorf("P17.2: it leaves off: %+v", got)
	}
	p.stands(t)
	// A loss while it probes: the window was more than it is; it leaves off while it recovers.
	p = started(t, 2).probes(t)
	p.wait(t, 0, api.Sample{Lost: 60_000, Flight: 30_000})
	p.stands(t)
	if got := p.leaves(t); got.Cwnd != 210_000 {
		t.Errorf("P17.2: it leaves off while it recovers: %+v", got)
	}
	p.wait(t, 0, api.Sample{Lost: 1000}) // not another one
	p.stands(t)
	p.delivered += 30_000
	if got := p.wait(t, 0, api.Sample{}); got.Cwnd != 209_000 {
		t.Errorf("P17.2: nothing comes back twice: %+v", got)
	}
	p.stands(t)
	// Recovering ends as it begins to probe.
	p = started(t, 2)
	p.wait(t, 0, api.Sample{Lost: 60_000, Flight: 30_000})
	p.delivered += 30_000
	p.probes(t)
	p.stands(t)
	if got := p.leaves(t); got.Cwnd != 210_000 {
		t.Errorf("P17.2: it leaves off: %+v", got)
	}
	// And as it leaves off.
	p = started(t, 2).probes(t)
	p.wait(t, 0, api.Sample{Lost: 60_000, Flight: 4000})
	p.wait(t, 0, api.Sample{Flight: 4000})
	p.wait(t, api.ProbeTime, api.Sample{Acked: 1, Prior: p.want.next})
	p.delivered += 4000
	if got := p.wait(t, 1, api.Sample{Flight: 8_000_000}); got.Mode != api.Startup || got.Cwnd != 210_000 {
		t.Errorf("P17.2: it leaves off, and does not recover: %+v", got)
	}
	p.stands(t)
}

// TestLess: step 8: less by what is lost, mss at least: to be seen where it grows from there on.
func TestLess(t *testing.T) {
	for _, r := range []struct{ lost, cwnd uint64 }{
		{1, 109_999}, {1000, 109_000}, {105_000, 5000}, {105_999, 4001}, {106_000, 4000}, {106_001, 4000}, {109_000, 4000}, {110_000, 4000}, {most, 4000},
	} {
		p := started(t, 1)
		if got := p.wait(t, 0, api.Sample{Lost: r.lost, Flight: 1}); got.Cwnd != r.cwnd {
			t.Errorf("P17.2: %+v: %+v", r, got)
		}
		p.stands(t)
	}
	for _, r := range []struct{ lost, cwnd uint64 }{ // it recovers, does not conserve, and 9000 are acknowledged
		{108_998, 10_002}, {108_999, 10_001}, {109_000, 10_000}, {109_001, 10_000}, {109_999, 10_000}, {110_000, 10_000}, {110_001, 10_000}, {most, 10_000},
	} {
		p := started(t, 1)
		p.wait(t, 0, api.Sample{Lost: 1, Flight: 1})
		p.wait(t, 0, api.Sample{Acked: 1, Prior: p.want.next, Flight: 1}) // 110,000 again
		if got := p.wait(t, 0, api.Sample{Lost: r.lost, Acked: 9000, Prior: p.want.next - 1, Flight: 1}); got.Cwnd != r.cwnd {
			t.Errorf("P17.2: %+v: %+v", r, got)
		}
		p.stands(t)
	}
}
