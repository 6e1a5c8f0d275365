package cycle_test

import (
	"math"
	"testing"

	"canter/api"
	"canter/cycle"
)

const most = math.MaxUint64

// look: what an Update is handed.
type look struct{ now, rtt, lost, flight, up, one uint64 }

// gains: of each phase, by hand.
var gains = [8]uint64{320, 192, 256, 256, 256, 256, 256, 256}

func update(c *cycle.Cycle, l look) bool {
	return c.Update(l.now, l.rtt, l.lost, l.flight, l.up, l.one)
}

// at: whether it is at that phase, with its gain; asking turns nothing: a second one answers the same.
func at(t *testing.T, c *cycle.Cycle, phase int) {
	t.Helper()
	for range 2 {
		if got := c.Phase(); got != phase {
			t.Errorf("P14.1: Phase: %d; want %d", got, phase)
		}
		if got := c.Gain(); got != gains[phase] {
			t.Errorf("P14.1: Gain at phase %d: %d; want %d", phase, got, gains[phase])
		}
	}
}

// lasts: whether, with that rtt, its phase is not over at since + rtt and is over right behind, held by copies of it.
func lasts(t *testing.T, c *cycle.Cycle, since, rtt uint64) {
	t.Helper()
	phase := c.Phase()
	// With these, phase 0 ends as soon as it is over, and phase 1 not ahead of that.
	l := look{since + rtt, rtt, 1, most, most, 0}
	q := *c
	if update(&q, l) {
		t.Errorf("P14.1: phase %d since %d: %+v: over", phase, since, l)
	}
	if q != *c {
		t.Errorf("P14.1: phase %d since %d: %+v: not as it was", phase, since, l)
	}
	if l.now == most {
		return
	}
	l.now++
	if !update(&q, l) {
		t.Errorf("P14.1: phase %d since %d: %+v: not over", phase, since, l)
	}
	at(t, &q, (phase+1)%api.Phases)
}

// stands: whether it is at that phase, since then.
func stands(t *testing.T, c *cycle.Cycle, phase int, since uint64) {
	t.Helper()
	at(t, c, phase)
	for _, rtt := range []uint64{0, 1, 50, (most - since) / 2, most - since - 1, most - since} {
		if rtt <= most-since { // else there is no such time
			lasts(t, c, since, rtt)
		}
	}
}

// begins: an Update, and whether the next phase begins with it; it is at that one since now, or at the old one as it was.
func begins(t *testing.T, phase int, since uint64, l look, want bool) {
	t.Helper()
	c := cycle.New()
	c.Start(since, phase)
	if got := update(c, l); got != want {
		t.Errorf("P14.1: phase %d since %d: %+v: %t; want %t", phase, since, l, got, want)
	}
	if want {
		phase, since = (phase+1)%api.Phases, l.now
	}
	stands(t, c, phase, since)
}

func TestExample(t *testing.T) {
	for _, x := range []uint64{0, 1, 100, most} {
		c := cycle.New()
		c.Start(0, 2)
		if !c.Update(10, 5, x, x, x, x) || c.Phase() != 3 {
			t.Errorf("P14.1: example 1, with %d: phase %d", x, c.Phase())
		}
		stands(t, c, 3, 10)
	}
}

func TestBeginning(t *testing.T) {
	for _, c := range []*cycle.Cycle{cycle.New(), {}} { // R1: the second one New did not make
		stands(t, c, 0, 0)
		for _, r := range []struct {
			look
			want bool
		}{
			{look{0, 0, 0, 0, 0, 0}, false},
			{look{0, 0, 1, 9, 0, 0}, false},
			{look{1, 1, 1, 9, 0, 0}, false},
			{look{1, 0, 0, 8, 9, 9}, false},
			{look{1, 0, 0, 9, 9, 0}, true},
			{look{1, 0, 1, 0, 9, 0}, true},
			{look{1, 0, 0, 0, 0, 0}, true},
			{look{most, most, 1, most, 0, most}, false},
			{look{most, most - 1, 1, 0, most, 0}, true},
		} {
			q := *c
			if got := update(&q, r.look); got != r.want {
				t.Errorf("P14.1: in the beginning: %+v: %t; want %t", r.look, got, r.want)
			}
			if r.want {
				stands(t, &q, 1, r.now)
			} else {
				stands(t, &q, 0, 0)
			}
		}
	}
}

// starts: a phase that is asked for, and the one it comes to, worked out by hand.
var starts = map[int]int{
	0: 0, 1: 1, 2: 2, 3: 3, 4: 4, 5: 5, 6: 6, 7: 7,
	8: 0, 9: 1, 10: 2, 15: 7, 16: 0, 17: 1, 100: 4, 1000001: 1,
	-1: 7, -2: 6, -3: 5, -4: 4, -5: 3, -6: 2, -7: 1, -8: 0,
	-9: 7, -15: 1, -16: 0, -17: 7, -100: 4, -1000001: 7,
	math.MaxInt: 7, math.MaxInt - 1: 6, math.MaxInt - 6: 1, math.MaxInt - 7: 0, math.MaxInt - 8: 7,
	math.MinInt: 0, math.MinInt + 1: 1, math.MinInt + 2: 2, math.MinInt + 7: 7, math.MinInt + 8: 0,
}

// TestStart: with any phase, at any time, whatever it was at.
func TestStart(t *testing.T) {
	nows := []uint64{0, 1, 100, 1 << 32, 1 << 62, 1<<63 - 1, 1 << 63, most - 1, most}
	for phase, want := range starts {
		for _, now := range nows {
			c := cycle.New()
			c.Start(now, phase)
			stands(t, c, want, now)
			if t.Failed() {
				t.Fatalf("P14.1: Start(%d, %d)", now, phase)
			}
		}
	}
	c := cycle.New()
	for phase, want := range starts {
		for _, now := range nows { // again while a phase lasts, and ahead of its beginning
			c.Start(now, phase)
			at(t, c, want)
			c.Start(now, phase)
			stands(t, c, want, now)
		}
	}
}

// TestStartAgain: the same phase again begins anew; another one does too.
func TestStartAgain(t *testing.T) {
	for phase := range api.Phases {
		for next := range api.Phases {
			c := cycle.New()
			c.Start(100, phase)
			if c.Update(150, 50, 1, 99, 0, 0) {
				t.Errorf("P14.1: phase %d: over", phase)
			}
			c.Start(150, next)
			stands(t, c, next, 150)
			if c.Update(200, 50, 1, 99, 0, 0) {
				t.Errorf("P14.1: phase %d, then %d: over", phase, next)
			}
			c.Start(120, phase)
			stands(t, c, phase, 120)
		}
	}
}

// TestOver: now less the beginning one below rtt, at it, and one above it, with what ends phase 0 once it is over and phase 1 not ahead of that.
func TestOver(t *testing.T) {
	for phase := range api.Phases {
		for _, r := range []struct {
			since, now, rtt uint64
			want            bool
		}{
			{100, 149, 50, false}, {100, 150, 50, false}, {100, 151, 50, true}, {100, 1000, 50, true},
			{0, 49, 50, false}, {0, 50, 50, false}, {0, 51, 50, true},
			{100, 100, 0, false}, {100, 101, 0, true}, {100, 100, 1, false}, {100, 101, 1, false}, {100, 102, 1, true}, // rtt 0 and 1
			{0, 0, 0, false}, {0, 1, 0, true},
			{100, 99, 0, false}, {100, 0, 0, false}, {100, 0, 50, false}, {100, 49, 50, false}, // ahead of the beginning
			{most, 0, 0, false}, {most, 0, 50, false}, {most, most - 1, 0, false}, {1 << 63, 1, 0, false}, {1, 0, 0, false},
			{most, most, 0, false}, {most - 1, most, 0, true}, {most - 1, most, 1, false}, {most - 2, most, 1, true}, // the greatest
			{0, most, most, false}, {0, most, most - 1, true}, {0, most - 1, most - 1, false}, {1, most, most - 1, false}, {2, most, most - 2, false}, {1, most, most - 2, true},
			{most, most, most, false}, {most, 0, most, false}, {0, 0, most, false}, {100, most, most - 99, false}, {100, most, most - 100, false}, {100, most, most - 101, true},
			{1 << 63, most, 1<<63 - 1, false}, {1 << 63, most, 1<<63 - 2, true}, {1<<63 - 1, most, 1 << 63, false}, {1<<63 - 1, most, 1<<63 - 1, true},
		} {
			begins(t, phase, r.since, look{r.now, r.rtt, 1, 9, 9, 0}, r.want)
		}
		if t.Failed() {
			t.FailNow()
		}
	}
}

// TestUp: phase 0: over or not, with lost 0 and more, with flight about up, each together.
func TestUp(t *testing.T) {
	for now, over := range map[uint64]bool{0: false, 100: false, 149: false, 150: false, 151: true, 9999: true, most: true} {
		for lost, seen := range map[uint64]bool{0: false, 1: true, 2: true, most: true} {
			for _, r := range []struct {
				flight, up uint64
				enough     bool
			}{
				{8, 9, false}, {9, 9, true}, {10, 9, true},
				{0, 0, true}, {1, 0, true}, {0, 1, false}, {1, 1, true}, {2, 1, true},
				{most - 1, most, false}, {most, most, true}, {most, most - 1, true}, {0, most, false}, {most, 0, true},
				{1<<63 - 1, 1 << 63, false}, {1 << 63, 1 << 63, true}, {1<<63 + 1, 1 << 63, true},
			} {
				for _, one := range []uint64{0, r.flight - 1, r.flight, r.flight + 1, most} { // no part
					begins(t, 0, 100, look{now, 50, lost, r.flight, r.up, one}, over && (seen || r.enough))
				}
			}
		}
	}
}

// TestDown: phase 1: over or not, with flight about one, each together.
func TestDown(t *testing.T) {
	for now, over := range map[uint64]bool{0: false, 99: false, 100: false, 149: false, 150: false, 151: true, 9999: true, most: true} {
		for _, r := range []struct {
			flight, one uint64
			drained     bool
		}{
			{8, 9, true}, {9, 9, true}, {10, 9, false},
			{0, 0, true}, {1, 0, false}, {0, 1, true}, {1, 1, true}, {2, 1, false},
			{most - 1, most, true}, {most, most, true}, {most, most - 1, false}, {0, most, true}, {most, 0, false},
			{1<<63 - 1, 1 << 63, true}, {1 << 63, 1 << 63, true}, {1<<63 + 1, 1 << 63, false},
		} {
			for _, lost := range []uint64{0, 1, most} { // no part
				for _, up := range []uint64{0, r.flight - 1, r.flight, r.flight + 1, most} { // no part
					begins(t, 1, 100, look{now, 50, lost, r.flight, up, r.one}, over || r.drained)
				}
			}
		}
	}
	// However long it may last, what has drained ends it.
	begins(t, 1, 0, look{0, most, 0, 0, 0, 0}, true)
	begins(t, 1, most, look{0, most, 0, 7, 0, 7}, true)
	begins(t, 1, most, look{0, most, 0, 8, 0, 7}, false)
}

// TestAlong: other phases: lost, flight, up and one play no part.
func TestAlong(t *testing.T) {
	values := []uint64{0, 1, 9, most}
	for phase := 2; phase < api.Phases; phase++ {
		for now, over := range map[uint64]bool{0: false, 149: false, 150: false, 151: true, most: true} {
			for _, lost := range values {
				for _, flight := range values {
					for _, up := range values {
						for _, one := range values {
							begins(t, phase, 100, look{now, 50, lost, flight, up, one}, over)
						}
					}
				}
			}
		}
	}
}

// TestRound: one more phase each time, 0 behind the last, since that now; a whole round's gains.
func TestRound(t *testing.T) {
	for first := range api.Phases {
		c := cycle.New()
		now := uint64(100)
		c.Start(now, first)
		for n := range 3 * api.Phases {
			phase := (first + n) % api.Phases
			stands(t, c, phase, now)
			for range 3 { // it lasts on
				if l := (look{now + 50, 50, 1, 9, 9, 0}); update(c, l) {
					t.Errorf("P14.1: phase %d since %d: %+v: over", phase, now, l)
				}
			}
			stands(t, c, phase, now)
			now += 51 + uint64(n)
			if l := (look{now, 50, 1, 9, 9, 0}); !update(c, l) {
				t.Errorf("P14.1: phase %d: %+v: not over", phase, l)
			}
		}
		stands(t, c, first, now)
	}
	c := cycle.New()
	total := uint64(0)
	for n := range api.Phases {
		total += c.Gain()
		if !c.Update(uint64(n+1), 0, 1, 9, 9, 0) {
			t.Errorf("P14.1: phase %d: not over", n)
		}
	}
	at(t, c, 0)
	if total != api.Phases*api.Unit {
		t.Errorf("P14.1: gains of a whole round: %d; up and down come to nothing: want %d", total, api.Phases*api.Unit)
	}
}

// TestOneEach: an Update begins one phase at most, however long it was: the next one lasts from there on; nothing was drained ahead of its time.
func TestOneEach(t *testing.T) {
	c := cycle.New()
	if !c.Update(1000000, 1, 1, 0, 0, 0) {
		t.Error("P14.1: phase 0: not over")
	}
	stands(t, c, 1, 1000000) // flight is at most one with it already
	if !c.Update(1000000, 1, 1, 0, 0, 0) {
		t.Error("P14.1: phase 1: drained, and not over")
	}
	stands(t, c, 2, 1000000)
	for range 3 {
		if c.Update(1000000, 0, 1, 0, 0, 0) {
			t.Error("P14.1: phase 2: over right then")
		}
	}
	if !c.Update(most, 1, 0, 0, 0, 0) {
		t.Error("P14.1: phase 2: not over")
	}
	stands(t, c, 3, most)
}

// TestBack: a phase may begin ahead of the one before, where phase 1 has drained: the next one is since that now.
func TestBack(t *testing.T) {
	c := cycle.New()
	c.Start(100, 1)
	if !c.Update(40, 50, 0, 7, 0, 7) {
		t.Error("P14.1: phase 1: drained, and not over")
	}
	stands(t, c, 2, 40)
}

// TestApart: R2: what is done with one is not to be seen in another.
func TestApart(t *testing.T) {
	a, b := cycle.New(), cycle.New()
	a.Start(100, 3)
	stands(t, b, 0, 0)
	b.Start(200, 1)
	stands(t, a, 3, 100)
	if !a.Update(151, 50, 0, 0, 0, 0) {
		t.Error("P14.1: phase 3: not over")
	}
	stands(t, a, 4, 151)
	stands(t, b, 1, 200)
	if !b.Update(201, 50, 0, 0, 0, 0) || a.Update(201, 50, 0, 0, 0, 0) {
		t.Error("P14.1: phase 1 of one, 4 of the other")
	}
	stands(t, a, 4, 151)
	stands(t, b, 2, 201)
	stands(t, cycle.New(), 0, 0)
}

func TestNil(t *testing.T) {
	var none *cycle.Cycle
	ask := func() {
		t.Helper()
		if none.Phase() != 0 || none.Gain() != api.Unit {
			t.Errorf("P14.1: nil: phase %d, gain %d", none.Phase(), none.Gain())
		}
	}
	ask()
	values := []uint64{0, 1, 100, 1 << 63, most}
	for phase := range starts {
		for _, now := range values {
			none.Start(now, phase)
			for _, x := range values {
				for _, l := range []look{{now, 0, x, x, x, x}, {now, x, 1, most, 0, most}, {now, x, 0, 0, 0, 0}, {now, x, 1, 0, most, most}} {
					if update(none, l) {
						t.Errorf("P14.1: nil: %+v: true", l)
					}
				}
			}
			ask()
		}
	}
}
