package bbr_test

import (
	"testing"

	"canter/api"
)

// TestConserves: step 8: the greater one of the window, and of what is under way and acknowledged; mss and the floor are below that.
func TestConserves(t *testing.T) {
	for _, r := range []struct{ flight, acked, cwnd uint64 }{
		{0, 0, 150_000}, {100_000, 49_999, 150_000}, {100_000, 50_000, 150_000}, {100_000, 50_001, 150_001}, {0, 150_000, 150_000}, {0, 150_001, 150_001}, {150_001, 0, 150_001},
		{1 << 63, 1 << 62, 3 << 62}, {1 << 63, 1 << 63, most}, {most, 0, most}, {0, most, most}, {most, 1, most}, {most - 1, 1, most}, {most - 2, 1, most - 1}, {most, most, most},
	} {
		for _, tso := range []uint64{0, 2000, most} { // no part
			p := started(t, 2)
			s := api.Sample{Now: p.now, Delivered: p.delivered, Prior: p.delivered - 1, Acked: r.acked, Lost: 60_000, Flight: r.flight}
			if got := p.update(t, look{s, tso}); got.Cwnd != r.cwnd {
				t.Errorf("P17.2: %+v: %+v", r, got)
			}
			p.stands(t)
		}
	}
	// With a full pipe, too.
	for _, p := range []*line{drains(t), cruises(t)} {
		if got := p.wait(t, 0, api.Sample{Lost: 60_000, Acked: 70_000, Prior: p.delivered - 1, Flight: 5 * size}); got.Cwnd != 570_000 {
			t.Errorf("P17.2: %+v", got)
		}
		p.stands(t)
	}
	for _, r := range []struct{ flight, acked, cwnd uint64 }{{0, 0, 4000}, {0, 999, 4000}, {3000, 999, 4000}, {3000, 1000, 4000}, {3000, 1001, 4001}} {
		p := fresh(1000)
		if got := p.update(t, look{api.Sample{Lost: most, Flight: r.flight, Acked: r.acked}, tso}); got.Cwnd != r.cwnd {
			t.Errorf("P17.2: all is lost: %+v: %+v", r, got)
		}
		p.stands(t)
	}
}

// small: ahead of a full pipe, with that window, 10,000 at most, a bandwidth of 1000 and a round trip of a Second, 10,000 delivered, and a round begun: w is 8886 (2886, and 3 times 2000).
func small(t *testing.T, cwnd uint64) *trial {
	t.Helper()
	p := fresh(1000)
	p.update(t, look{api.Sample{Delivered: 10_000, Prior: 9000, Interval: second, Rtt: second, Acked: 1}, tso})
	if cwnd < 10_000 {
		if cwnd <= 8886 {
			cwnd--
		}
		p.update(t, look{api.Sample{Delivered: 10_000, Lost: 10_000 - cwnd, Flight: cwnd}, tso})
		p.update(t, look{api.Sample{Delivered: 10_000, Prior: 10_000, Acked: 1, Limited: true}, tso})
	}
	return p
}

// TestGrows: step 8: ahead of a full pipe: the window about w, and what was delivered about InitSegs times mss.
func TestGrows(t *testing.T) {
	for _, cwnd := range []uint64{5000, 8885, 8886, 8887, 10_000} {
		for delivered, few := range map[uint64]bool{0: true, 9999: true, 10_000: false, 10_001: false} {
			for _, acked := range []uint64{0, 1, 7, 500_000, most - cwnd - 1, most - cwnd, most - cwnd + 1, most} {
				p := small(t, cwnd)
				if got := p.m.State(); got.Cwnd != cwnd || got.Bw != 1000 || got.MinRtt != second || got.Full {
					t.Fatalf("P17.2: not small: %+v", got)
				}
				want := cwnd
				if few || cwnd < 8886 {
					want = plus(cwnd, acked)
				}
				if got := p.update(t, look{api.Sample{Delivered: delivered, Acked: acked}, tso}); got.Cwnd != want {
					t.Errorf("P17.2: %d, delivered %d, acked %d: %+v", cwnd, delivered, acked, got)
				}
				p.stands(t)
			}
		}
	}
	// InitSegs times the mss that is held.
	for mss, init := range map[uint64]uint64{0: 1000, 100: 1000, 101: 1010, 9000: 90_000, most: 90_000} {
		for delivered, is := range map[uint64]bool{init - 1: true, init: false, init + 1: false} {
			p := fresh(mss) // w is as much: no round trip is known
			want := init
			if is {
				want += 5
			}
			if got := p.update(t, look{api.Sample{Delivered: delivered, Acked: 5}, most}); got.Cwnd != want {
				t.Errorf("P17.2: mss %d, delivered %d: %+v", mss, delivered, got)
			}
			p.stands(t)
		}
	}
	// No round trip is known: w is InitSegs times mss, whatever the bandwidth.
	p := fresh(1000)
	if got := p.update(t, look{api.Sample{Delivered: size, Interval: 1, Acked: 5}, most}); got.Cwnd != 10_000 || got.Bw != 100_000_000_000_000 {
		t.Errorf("P17.2: no round trip: %+v", got)
	}
	p.stands(t)
}

// TestTso: step 8: 3 times tso is in w, ahead of a full pipe and with one; cut at the greatest numbers.
func TestTso(t *testing.T) {
	for _, r := range []struct {
		tso   uint64
		grows bool
	}{{0, false}, {1, false}, {2371, false}, {2372, true}, {2000, false}, {1 << 62, true}, {most / 3, true}, {most/3 + 1, true}, {most, true}} {
		p := small(t, 10_000) // 2886 and 3 times 2371 is 9999
		want := uint64(10_000)
		if r.grows {
			want += 9
		}
		if got := p.update(t, look{api.Sample{Delivered: 10_000, Acked: 9}, r.tso}); got.Cwnd != want {
			t.Errorf("P17.2: tso %d: %+v", r.tso, got)
		}
		p.stands(t)
	}
	for _, r := range []struct{ tso, cwnd uint64 }{
		{0, 200_000}, {1, 200_003}, {1999, 205_997}, {2000, 206_000}, {2001, 206_003}, {2333, 206_999}, {2334, 207_000}, {1 << 62, 207_000}, {most, 207_000},
	} {
		p := cruises(t)
		if got := p.update(t, look{api.Sample{Now: p.now, Delivered: p.delivered, Acked: 1000, Flight: size}, r.tso}); got.Cwnd != r.cwnd {
			t.Errorf("P17.2: tso %d: %+v", r.tso, got)
		}
		p.stands(t)
		if got := p.update(t, look{api.Sample{Now: p.now, Delivered: p.delivered, Flight: size}, r.tso}); got.Cwnd != r.cwnd { // nothing is acknowledged
			t.Errorf("P17.2: tso %d, and nothing acknowledged: %+v", r.tso, got)
		}
	}
}

// TestWindowGain: step 8: the window's gain of each mode: HighGain in Startup and Drain, CwndGain in ProbeBw, in each phase.
func TestWindowGain(t *testing.T) {
	for _, r := range []struct {
		at   *line
		cwnd uint64
	}{
		{started(t, 3), 310_000}, {drains(t), 294_671}, {phase(t, 0), 206_000}, {phase(t, 1), 206_000}, {phase(t, 2), 206_000}, {phase(t, 3), 206_000}, {phase(t, 7), 206_000},
		{started(t, 3).probes(t), 4000}, {drains(t).probes(t), 4000}, {phase(t, 0).probes(t), 4000},
	} {
		p := r.at
		p.flight = 5 * size
		for _, acked := range []uint64{size, most} {
			if got := p.wait(t, 0, api.Sample{Acked: acked}); got.Cwnd != r.cwnd {
				t.Errorf("P17.2: %+v; want %d", got, r.cwnd)
			}
			p.stands(t)
		}
	}
	// As it is behind what turns the mode in the same Update.
	p := drains(t)
	p.flight = 0
	if got := p.wait(t, 0, api.Sample{Acked: size}); got.Cwnd != 206_000 || got.Mode != api.ProbeBw {
		t.Errorf("P17.2: from Drain: %+v", got)
	}
	p.stands(t)
	// And so are bandwidth and round trip.
	p = cruises(t)
	if got := p.wait(t, 0, api.Sample{Prior: p.delivered - 2*size, Interval: trip, Rtt: trip / 4, Acked: size}); got.Cwnd != 106_000 {
		t.Errorf("P17.2: 20,000,000 a second, and a quarter of the round trip: %+v", got)
	}
	p.stands(t)
}

// TestFullGrows: step 8: with a full pipe: the lesser one of the window and what is acknowledged, and of w.
func TestFullGrows(t *testing.T) {
	for _, r := range []struct{ acked, cwnd uint64 }{
		{0, 106_000}, {1, 106_001}, {99_999, 205_999}, {100_000, 206_000}, {100_001, 206_000}, {1 << 63, 206_000}, {most - 106_000, 206_000}, {most - 105_999, 206_000}, {most, 206_000},
	} {
		p := cruises(t)
		p.flight = 1
		p.wait(t, 0, api.Sample{Lost: 100_001})
		p.wait(t, 0, api.Sample{Acked: 1, Prior: p.want.next})
		if got := p.wait(t, 0, api.Sample{Acked: r.acked}); got.Cwnd != r.cwnd {
			t.Errorf("P17.2: %+v: %+v", r, got)
		}
		p.stands(t)
	}
	// It falls to w, too; however little was delivered.
	p := cruises(t)
	if got := p.wait(t, 0, api.Sample{Acked: 1, Rtt: trip / 2}); got.Cwnd != 106_000 {
		t.Errorf("P17.2: half of the round trip: %+v", got)
	}
	p.stands(t)
	p = cruises(t)
	if got := p.update(t, look{api.Sample{Now: p.now, Delivered: 9999, Acked: 50, Flight: size}, 1000}); got.Cwnd != 203_000 {
		t.Errorf("P17.2: little was delivered: %+v", got)
	}
	p.stands(t)
	// And to the floor, which w is no less than.
	p = cruises(t)
	if got := p.update(t, look{api.Sample{Now: p.now, Delivered: p.delivered, Acked: 50, Rtt: 1, Flight: size}, 0}); got.Cwnd != 4000 || got.MinRtt != 1 {
		t.Errorf("P17.2: the floor: %+v", got)
	}
	p.stands(t)
}

// TestGreatest: step 8: bandwidth and round trip of the greatest: w is cut, and so is the window.
func TestGreatest(t *testing.T) {
	p := fresh(1000)
	want := api.Model{Rate: most, Cwnd: 20_000, Bw: most, MinRtt: most, Gain: api.HighGain, Round: 1}
	p.sent(t, api.Sample{Delivered: most, Interval: 1, Rtt: most, Acked: 10_000}, want)
	p.stands(t)
	want.Cwnd = most
	p.sent(t, api.Sample{Delivered: most, Rtt: most, Acked: most}, want)
	p.stands(t)
	p.sent(t, api.Sample{Delivered: most, Rtt: most, Acked: most}, want)
	want.Cwnd = 1 << 63
	p.sent(t, api.Sample{Delivered: most - 1, Lost: 1<<63 - 1}, want)
	p.stands(t)
	want.Cwnd = most // it conserves, till then
	p.sent(t, api.Sample{Delivered: most, Acked: 5}, want)
	p.stands(t)
}

// TestFloor: step 8: the floor is the least, and in ProbeRtt just that, whatever it would be.
func TestFloor(t *testing.T) {
	for _, r := range []struct{ mss, floor uint64 }{{0, 400}, {100, 400}, {101, 404}, {1000, 4000}, {8999, 35_996}, {9000, 36_000}, {most, 36_000}} {
		for _, lost := range []uint64{6*r.floor/4 - 1, 6 * r.floor / 4, 6*r.floor/4 + 1, most} {
			p := fresh(r.mss)
			want := r.floor
			if lost < 6*r.floor/4 {
				want++
			}
			if got := p.update(t, look{api.Sample{Lost: lost}, tso}); got.Cwnd != want {
				t.Errorf("P17.2: mss %d, lost %d: %+v", r.mss, lost, got)
			}
			p.stands(t)
		}
		p := fresh(r.mss)
		p.update(t, look{api.Sample{Now: 1, Rtt: 1}, tso})
		for n := range uint64(3) {
			for _, s := range []api.Sample{{}, {Lost: most}, {Lost: 1}, {Acked: most}, {Acked: most, Lost: 5, Flight: most}, {Flight: most}} {
				s.Now = 2 + api.MinRttWin + n
				s.Flight = max(s.Flight, r.floor+1)
				if got := p.update(t, look{s, most}); got.Mode != api.ProbeRtt || got.Cwnd != r.floor {
					t.Errorf("P17.2: mss %d: it probes: %+v", r.mss, got)
				}
			}
		}
		p.stands(t)
	}
}

// policed: in use, at 100,000 a second, while samples tell ten times as much and the pipe is full, or tell more each round.
func policed(t *testing.T, full bool) *line {
	t.Helper()
	p := opened()
	interval := uint64(1 << 20)
	round := func(lost uint64) {
		prior := p.delivered
		p.now += trip
		p.delivered += size / 100
		interval /= 2
		if full {
			interval = trip / 10
		}
		p.update(t, look{api.Sample{Now: p.now, Delivered: p.delivered, Prior: prior, Interval: interval, Rtt: trip, Acked: size / 100, Lost: lost, Flight: p.flight}, tso})
	}
	if full {
		for range 4 {
			round(0)
		}
	}
	round(1)
	for range 2 { // 781 lost are enough: 4000 times 50 / 256
		for range 3 {
			round(0)
		}
		round(781)
	}
	return p
}

// TestLongTerm: bw is the policer's while it is in use, and then winmax's Best again; LongTerm tells which.
func TestLongTerm(t *testing.T) {
	p := policed(t, true)
	want := api.Model{Mode: api.Drain, Rate: 34_375, Cwnd: 8886, Bw: size, MinRtt: trip, Gain: api.DrainGain, Round: 13, Full: true, LongTerm: true}
	p.tells(t, want)
	p.stands(t)
	p.delivered += 5 * size // it does not recover
	p.wait(t, 0, api.Sample{})
	// The target of Drain is of the policer's: it holds 1000.
	for flight, is := range map[uint64]bool{999: true, 1000: true, 1001: false, 10_000: false} {
		q := p.copied()
		q.flight = flight
		got := q.wait(t, 0, api.Sample{Acked: 1})
		want := api.Model{Mode: api.Drain, Rate: 34_375, Cwnd: 8886, Bw: size, MinRtt: trip, Gain: api.DrainGain, Round: 13, Full: true, LongTerm: true}
		if is {
			want.Mode, want.Phase, want.Gain, want.Rate, want.Cwnd = api.ProbeBw, 2, api.Unit, size, 8000
		}
		if got != want {
			t.Errorf("P17.2: Drain with %d: %+v; want %+v", flight, got, want)
		}
		q.stands(t)
	}
}

// TestLongTermCycle: while the policer is in use the cycle stands, and the gain is Unit; as it goes out of use, all is as without it, in the same Update.
func TestLongTermCycle(t *testing.T) {
	p := policed(t, true)
	p.delivered += 5 * size
	p.flight = 1000
	p.wait(t, 0, api.Sample{}) // ProbeBw, phase 2
	want := api.Model{Mode: api.ProbeBw, Phase: 2, Rate: size, Cwnd: 8000, Bw: size, MinRtt: trip, Gain: api.Unit, Round: 13, Full: true, LongTerm: true}
	later := func() api.Model { // a round, more than a round trip later
		p.delivered += 10_000
		return p.wait(t, trip+1, api.Sample{Acked: 10_000, Prior: p.want.next, Interval: trip})
	}
	for range 47 {
		want.Round++
		if got := later(); got != want {
			t.Fatalf("P17.2: in use: %+v; want %+v", got, want)
		}
	}
	p.stands(t)
	want.Round++
	want.Phase, want.LongTerm, want.Bw, want.Rate, want.Cwnd = 3, false, rate/10, rate/10, 18_000
	if got := later(); got != want {
		t.Fatalf("P17.2: out of use: %+v; want %+v", got, want)
	}
	p.stands(t)
	for _, next := range []int{4, 5, 6, 7, 0} {
		if got := later(); got.Phase != next {
			t.Errorf("P17.2: phase %d; want %d", got.Phase, next)
		}
	}
	p.stands(t)
}

// TestLongTermGain: step 6: up and down: the gain is Unit while the policer is in use, and the phase's again behind that.
func TestLongTermGain(t *testing.T) {
	for n, gain := range []uint64{320, 192} {
		p := phase(t, n)
		p.flight = 110_000
		p.wait(t, 0, api.Sample{Lost: 1})
		var got api.Model
		for k := range 8 {
			if p.m.State().Gain != gain {
				t.Fatalf("P17.2: phase %d: %+v", n, p.m.State())
			}
			p.delivered += 10
			got = p.wait(t, ms/10, api.Sample{Acked: 10, Prior: p.want.next, Lost: uint64(k) % 4 / 3 * 100})
		}
		if !got.LongTerm || got.Phase != n || got.Gain != api.Unit || got.Bw != size || got.Rate != size {
			t.Errorf("P17.2: phase %d, in use: %+v", n, got)
		}
		p.stands(t)
		for range api.LtMaxRounds {
			got = p.wait(t, 0, api.Sample{Acked: 1, Prior: p.want.next})
		}
		if got.LongTerm || got.Phase != n || got.Gain != gain || got.Bw != rate || got.Rate != gain*rate/256 {
			t.Errorf("P17.2: phase %d, out of use: %+v", n, got)
		}
		p.stands(t)
	}
}

// TestLongTermModes: it is in use in each mode: bw is the policer's in the rate, the window, and the target; Gain is Unit in ProbeBw alone.
func TestLongTermModes(t *testing.T) {
	p := policed(t, false)
	// Startup: the rate is that of the round before: it does not fall.
	want := api.Model{Rate: 704_765_319, Cwnd: 507_438, Bw: size, MinRtt: trip, Gain: api.HighGain, Round: 9, LongTerm: true}
	p.tells(t, want)
	p.stands(t)
	p = policed(t, true)
	p.wait(t, api.MinRttWin+1, api.Sample{Flight: 5 * size})
	want = api.Model{Mode: api.ProbeRtt, Rate: size, Cwnd: 4000, Bw: size, MinRtt: trip, Gain: api.Unit, Round: 13, Full: true, LongTerm: true}
	p.tells(t, want)
	p.stands(t)
	got := p.leaves(t)
	want.Mode, want.Phase, want.Round, want.Cwnd = api.ProbeBw, 2, 14, 14_000
	if got != want {
		t.Errorf("P17.2: it leaves off: %+v; want %+v", got, want)
	}
	p.stands(t)
	if got = p.wait(t, second, api.Sample{}); got != want { // the phase stands
		t.Errorf("P17.2: and a Second later: %+v; want %+v", got, want)
	}
}
