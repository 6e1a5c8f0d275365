package winmin_test

import (
	"testing"

	"canter/winmax"
	"canter/winmin"
)

// told: the chapter's words, one by one, over six numbers: times and values of the first, the second and the third one.
type told struct {
	window, latest         uint64
	t1, v1, t2, v2, t3, v3 uint64
}

func newTold(window uint64) told {
	return told{window: window, v1: most, v2: most, v3: most}
}

func (o *told) reset(t, v uint64) {
	o.t1, o.t2, o.t3 = t, t, t
	o.v1, o.v2, o.v3 = v, v, v
	if t > o.latest {
		o.latest = t
	}
}

func (o *told) update(t, v uint64) uint64 {
	if t < o.latest {
		t = o.latest
	}
	o.latest = t
	if v <= o.v1 || t-o.t3 > o.window {
		o.reset(t, v)
	} else if v <= o.v2 {
		o.t2, o.v2 = t, v
		o.t3, o.v3 = t, v
	} else if v <= o.v3 {
		o.t3, o.v3 = t, v
	}
	d := t - o.t1
	if d > o.window {
		o.t1, o.v1, o.t2, o.v2, o.t3, o.v3 = o.t2, o.v2, o.t3, o.v3, t, v
		if t-o.t1 > o.window {
			o.t1, o.v1, o.t2, o.v2, o.t3, o.v3 = o.t2, o.v2, o.t3, o.v3, t, v
		}
	} else if o.t2 == o.t1 && d > o.window/4 {
		o.t2, o.v2 = t, v
		o.t3, o.v3 = t, v
	} else if o.t3 == o.t2 && d > o.window/2 {
		o.t3, o.v3 = t, v
	}
	return o.v1
}

// came: all that came, with the times that they count as.
type came struct {
	window, latest uint64
	at, value      []uint64
}

func (c *came) add(t, v uint64) {
	c.at, c.value = append(c.at, t), append(c.value, v)
	c.latest = max(c.latest, t)
}

// late: whether v came within window of the latest time, and what the least one is that did.
func (c *came) late(v uint64) (bool, uint64) {
	there, least := false, uint64(most)
	for i, at := range c.at {
		if c.latest-at <= c.window {
			there = there || c.value[i] == v
			least = min(least, c.value[i])
		}
	}
	return there, least
}

// follows: what the chapters say that follows, of an answer got behind an Update with v.
func (c *came) follows(t *testing.T, v, got uint64) {
	t.Helper()
	if got > v {
		t.Errorf("what follows: %d; the last one was %d", got, v)
	}
	there, least := c.late(got)
	if !there || got < least {
		t.Errorf("what follows: %d, which did not come of late; the least that did: %d", got, least)
	}
}

// trial: one, and what it is held against: the chapter's words, what follows, and a winmax.Max of the same run turned.
type trial struct {
	m      *winmin.Min
	want   told
	came   came
	turned *winmax.Max
}

func newTrial(window uint64) *trial {
	return &trial{winmin.New(window), newTold(window), came{window: window}, winmax.New(window)}
}

func (p *trial) update(t *testing.T, at, v uint64) {
	t.Helper()
	got := p.m.Update(at, v)
	if want := p.want.update(at, v); got != want || p.m.Best() != want {
		t.Errorf("P9.1: Update(%d, %d): %d, Best %d; want %d", at, v, got, p.m.Best(), want)
	}
	if other := most - p.turned.Update(at, most-v); got != other {
		t.Errorf("P9.1: Update(%d, %d): %d; the same run turned: %d", at, v, got, other)
	}
	p.came.add(max(at, p.came.latest), v)
	p.came.follows(t, v, got)
}

func (p *trial) reset(t *testing.T, at, v uint64) {
	t.Helper()
	p.m.Reset(at, v)
	p.want.reset(at, v)
	p.turned.Reset(at, most-v)
	p.came.add(at, v)
	if got := p.m.Best(); got != v || most-p.turned.Best() != v {
		t.Errorf("P9.1: Reset(%d, %d): Best %d", at, v, got)
	}
}

// TestRuns: long mixed runs of Update and Reset, with steps of all sizes, some of them back; with small values, and with the greatest ones.
func TestRuns(t *testing.T) {
	x := uint64(3141592653589793)
	for _, window := range []uint64{0, 1, 2, 3, 4, 5, 7, 8, 10, 13, 100, 1 << 40} {
		for run := range 16 {
			p := newTrial(window)
			at, values := uint64(1000), uint64(2)<<(run%8)
			for k := range 600 {
				x = next(x)
				stride := max(window>>(x>>8%6), 1)
				switch {
				case x>>16%8 == 0:
					at -= min(at, x>>24%(window+3))
				default:
					at += x >> 24 % (stride + 1)
				}
				v := x >> 32 % values
				if run >= 8 {
					v = most - v
				}
				if x>>56%uint64(20+10*run) == 0 {
					p.reset(t, at, v)
				} else {
					p.update(t, at, v)
				}
				if t.Failed() {
					t.Fatalf("window %d, run %d, step %d", window, run, k)
				}
			}
		}
	}
}

// TestFar: runs of numbers of all sizes, up to the greatest ones.
func TestFar(t *testing.T) {
	x := uint64(1618033988749894)
	for run := range 2000 {
		x = next(x)
		p := newTrial([]uint64{most, most - 1, 1 << 63, x, x >> (x % 64), 0}[run%6])
		at := uint64(0)
		for k := range 20 {
			x = next(x)
			v := x >> (x >> 8 % 64)
			if run%4 < 2 {
				v = most - v
			}
			x = next(x)
			if step := x >> (x >> 8 % 64) / 8; at <= most-step {
				at += step
			} else {
				at = most - x>>16%3
			}
			if x>>32%16 == 0 {
				p.reset(t, at, v)
			} else {
				p.update(t, at, v)
			}
			if t.Failed() {
				t.Fatalf("run %d, step %d", run, k)
			}
		}
	}
}

// TestEachRun: all short runs of Update with small steps and values, of small windows.
func TestEachRun(t *testing.T) {
	const steps, values, length = 4, 4, 4
	runs := 1
	for range length {
		runs *= steps * values
	}
	for window := range uint64(6) {
		for run := range runs {
			p := newTrial(window)
			p.update(t, 3, 0)
			at, rest := uint64(3), run
			for range length {
				at += uint64(rest % steps)
				p.update(t, at, uint64(rest/steps%values)+1)
				rest /= steps * values
			}
			if t.Failed() {
				t.Fatalf("window %d, run %d", window, run)
			}
		}
	}
}

// TestFresh: what came ahead of a Reset plays no part for what is told behind it, but for the times: one that saw the latest of them alone tells the same.
func TestFresh(t *testing.T) {
	x := uint64(5772156649015328)
	for run := range 300 {
		a, b := winmin.New(10), winmin.New(10)
		at := uint64(0)
		for range run % 12 {
			x = next(x)
			at += x % 8
			a.Update(at, x>>8%10)
		}
		b.Update(at, 77)
		x = next(x)
		back, v := min(at, x%16), x>>8%10
		a.Reset(at-back, v)
		b.Reset(at-back, v)
		for k := range 20 {
			x = next(x)
			at += x % 5
			if va, vb := a.Update(at, x>>8%10), b.Update(at, x>>8%10); va != vb {
				t.Fatalf("P9.1: run %d, step %d behind a Reset: %d, and %d of one that had another beginning", run, k, va, vb)
			}
		}
	}
}
