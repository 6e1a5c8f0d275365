package pipe_test

import (
	"math"
	"testing"

	"canter/api"
	"canter/pipe"
)

const most = math.MaxUint64

// even: the greatest best of which the product is not cut: it comes out as the greatest number.
const even = most / 5 * 4

// step: an Update, and whether it is to be full then.
type step struct {
	start, limited bool
	bw             uint64
	want           bool
}

// Steps: two that count, the second of which makes it full, and three that do not.
func counts(bw uint64) step  { return step{start: true, bw: bw} }
func fills(bw uint64) step   { return step{start: true, bw: bw, want: true} }
func unasked(bw uint64) step { return step{bw: bw} }
func limited(bw uint64) step { return step{start: true, limited: true, bw: bw} }
func neither(bw uint64) step { return step{limited: true, bw: bw} }

// update: Update, and what it is to answer; Full answers it too, and turns nothing: a second one does so too.
func update(t *testing.T, p *pipe.Pipe, s step) {
	t.Helper()
	if got := p.Update(s.start, s.limited, s.bw); got != s.want {
		t.Errorf("P13.1: Update(%t, %t, %d): %t; want %t", s.start, s.limited, s.bw, got, s.want)
	}
	full(t, p, s.want)
}

func full(t *testing.T, p *pipe.Pipe, want bool) {
	t.Helper()
	for range 2 {
		if got := p.Full(); got != want {
			t.Errorf("P13.1: Full: %t; want %t", got, want)
		}
	}
}

// rows: runs from the beginning on.
func rows(t *testing.T, runs map[string][]step) {
	t.Helper()
	for name, steps := range runs {
		t.Run(name, func(t *testing.T) {
			p := pipe.New()
			full(t, p, false)
			for i, s := range steps {
				update(t, p, s)
				if t.Failed() {
					t.Fatalf("step %d", i)
				}
			}
		})
	}
}

// at: one with that best, and that many rounds without growth behind it.
func at(t *testing.T, best uint64, count int) *pipe.Pipe {
	t.Helper()
	p := pipe.New()
	update(t, p, counts(best))
	for n := range count {
		update(t, p, step{start: true, bw: 0, want: n+1 == api.FullRounds})
	}
	return p
}

// more: whether it is full behind just so many more rounds of bw, and stays so.
func more(t *testing.T, p *pipe.Pipe, bw uint64, left int) {
	t.Helper()
	for n := range left + 3 {
		update(t, p, step{start: true, bw: bw, want: n+1 >= left})
	}
}

// stands: whether it has a best of which edge is the product, and that count, and is not full, held by copies of it: with one below edge it is full in time, with edge the count begins anew.
func stands(t *testing.T, p *pipe.Pipe, edge uint64, count int) {
	t.Helper()
	full(t, p, false)
	if edge > 0 {
		below := *p
		more(t, &below, edge-1, api.FullRounds-count)
	}
	grown := *p
	update(t, &grown, counts(edge))
	if edge > 0 {
		more(t, &grown, edge-1, api.FullRounds)
	} else {
		always(t, &grown)
	}
	full(t, p, false)
}

// always: whether best is 0: whatever comes, it is growth, a 0 too.
func always(t *testing.T, p *pipe.Pipe) {
	t.Helper()
	for range 4 * api.FullRounds {
		update(t, p, counts(0))
	}
	update(t, p, counts(1))
	more(t, p, 0, api.FullRounds)
}

func TestExample(t *testing.T) {
	rows(t, map[string][]step{
		"1": {counts(100), counts(100), counts(100), fills(100)},
	})
}

func TestBeginning(t *testing.T) {
	for _, p := range []*pipe.Pipe{pipe.New(), {}} { // R1: the second one New did not make
		full(t, p, false)
		stands(t, p, 0, 0)
		always(t, p)
	}
	for _, bw := range []uint64{1, 2, 3, 4, 100, 1 << 32, 1 << 63, most - 1, most} {
		p := pipe.New()
		update(t, p, counts(bw)) // whatever it is, it is growth: best is 0
		more(t, p, bw-1, api.FullRounds)
	}
}

// edges: a best, and its product, worked out by hand.
var edges = []struct{ best, edge uint64 }{
	{0, 0},
	{1, 1}, {2, 2}, {3, 3}, // 1.25, 2.5, 3.75
	{4, 5}, {5, 6}, {6, 7}, {7, 8}, {8, 10},
	{100, 125}, {101, 126}, {102, 127}, {103, 128}, {104, 130},
	{1500, 1875}, {1 << 32, 5 << 30}, {1<<32 - 1, 5<<30 - 2},
	{1<<58 - 1, 5<<56 - 2}, {1 << 58, 5 << 56}, // times FullGrowth: about 2^64, and more
	{1 << 63, 5 << 61}, {1<<63 + 1, 5<<61 + 1}, {1<<63 + 3, 5<<61 + 3},
	{even - 1, most - 2}, {even, most}, // not cut
	{even + 1, most}, {even + 4, most}, {most - 1, most}, {most, most}, // cut
}

// TestEdges: a bw one below the product of best, at it, and one above it, with each count that is not full.
func TestEdges(t *testing.T) {
	for _, e := range edges {
		for count := range api.FullRounds {
			if e.best == 0 && count > 0 {
				continue // with a best of 0 there is none without growth
			}
			p := at(t, e.best, count)
			stands(t, p, e.edge, count)
			if e.edge > 0 {
				p := at(t, e.best, count)
				last := count+1 == api.FullRounds
				update(t, p, step{start: true, bw: e.edge - 1, want: last})
				if !last {
					stands(t, p, e.edge, count+1)
				}
			}
			update(t, p, counts(e.edge))
			if e.edge == 0 {
				stands(t, p, 0, 0)
			} else {
				more(t, p, e.edge-1, api.FullRounds)
			}
			if e.edge < most {
				p := at(t, e.best, count)
				update(t, p, counts(e.edge+1))
				more(t, p, e.edge, api.FullRounds)
			}
			if t.Failed() {
				t.Fatalf("best %d, count %d", e.best, count)
			}
		}
	}
}

// TestGrown: what grew is best as it came, not by the product: the next product is of it.
func TestGrown(t *testing.T) {
	for _, first := range edges {
		for _, e := range edges {
			if e.best < first.edge {
				continue
			}
			p := at(t, first.best, 0)
			update(t, p, counts(e.best))
			stands(t, p, e.edge, 0)
		}
	}
}

// TestNotCounted: without start, with limited, and both: best and the count stay, whatever bw is.
func TestNotCounted(t *testing.T) {
	for _, e := range edges {
		for count := range api.FullRounds {
			if e.best == 0 && count > 0 {
				continue
			}
			p := at(t, e.best, count)
			for _, bw := range []uint64{0, 1, e.best, e.edge, e.edge - 1, e.edge + 1, 2 * e.edge, 1 << 63, most - 1, most} {
				for range 2 * api.FullRounds {
					for _, s := range []step{unasked(bw), limited(bw), neither(bw)} {
						update(t, p, s)
					}
				}
				stands(t, p, e.edge, count)
			}
			if t.Failed() {
				t.Fatalf("best %d, count %d", e.best, count)
			}
		}
	}
}

// TestNothing: a bw of 0 in the beginning, again and again.
func TestNothing(t *testing.T) {
	p := pipe.New()
	for range 1000 {
		update(t, p, counts(0))
	}
	stands(t, p, 0, 0)
	update(t, p, counts(5))
	stands(t, p, 6, 0)
	more(t, p, 0, api.FullRounds)
}

// TestSmall: of 1, 2 and 3 the product, rounded down, is the same again: the same again is growth, and one less is not.
func TestSmall(t *testing.T) {
	for bw := range uint64(4) {
		p := pipe.New()
		for range 1000 {
			update(t, p, counts(bw))
		}
		stands(t, p, bw, 0)
	}
	more(t, at(t, 4, 0), 4, api.FullRounds)
}

// TestFalls: a bw below best: best stays, the count goes up.
func TestFalls(t *testing.T) {
	for _, bw := range []uint64{0, 1, 50, 99, 100, 101, 124} {
		p := at(t, 100, 0)
		update(t, p, counts(bw))
		stands(t, p, 125, 1)
		update(t, p, counts(124-bw/2))
		stands(t, p, 125, 2)
		update(t, p, counts(125))
		stands(t, p, 156, 0)
	}
	rows(t, map[string][]step{
		"once, and back":     {counts(100), counts(1), counts(100), fills(100)},
		"further and on":     {counts(100), counts(80), counts(60), fills(40)},
		"and up below it":    {counts(100), counts(10), counts(20), fills(40)},
		"and above it":       {counts(100), counts(10), counts(20), counts(125), counts(9), counts(124), fills(155)},
		"from the most":      {counts(most), counts(1), counts(most - 1), fills(0)},
		"from the most anew": {counts(most), counts(1), counts(most - 1), counts(most), counts(0), counts(0), fills(0)},
	})
}

// TestCount: FullRounds less one without growth, then one that grows, then FullRounds without: full at the last one and not earlier.
func TestCount(t *testing.T) {
	for _, e := range edges[1:] {
		p := at(t, e.best, 0)
		for range api.FullRounds - 1 {
			update(t, p, counts(e.edge-1))
		}
		update(t, p, counts(e.edge))
		more(t, p, e.edge-1, api.FullRounds)
	}
	p := at(t, 1, 0)
	best := uint64(1)
	for best < most/5 {
		for n := range api.FullRounds {
			stands(t, p, best*5/4, n)
			if n+1 < api.FullRounds {
				update(t, p, counts(best-1))
			}
		}
		best *= 2
		update(t, p, counts(best))
	}
	more(t, p, best, api.FullRounds)
	rows(t, map[string][]step{
		"one, one that grows":   {counts(100), counts(100), counts(125), counts(125), counts(125), fills(125)},
		"two, one that grows":   {counts(100), counts(100), counts(124), counts(125), counts(156 - 1), counts(125), fills(100)},
		"two, again and again":  {counts(4), counts(4), counts(4), counts(5), counts(5), counts(5), counts(6), counts(6), counts(6), counts(7), counts(7), counts(7), fills(7)},
		"small steps":           {counts(100), counts(110), counts(120), fills(124)},
		"small steps in time":   {counts(100), counts(110), counts(120), counts(130), counts(140), counts(150), counts(162), counts(162)},
		"small steps, too late": {counts(100), counts(110), counts(120), fills(124), fills(200), fills(0)},
		"the most, again":       {counts(most), counts(most), counts(most), counts(most), counts(most), counts(most - 1), counts(most - 1), fills(most - 1)},
		"up to the most":        {counts(even), counts(most - 1), counts(most - 1), counts(most), counts(most - 1), counts(most - 1), fills(even)},
	})
}

// TestBetween: rounds that are limited, and updates without start, between those that count.
func TestBetween(t *testing.T) {
	rows(t, map[string][]step{
		"all alike": {counts(100), unasked(100), limited(100), neither(100), counts(100), unasked(100), limited(100), neither(100), counts(100), unasked(100), limited(100), neither(100), fills(100)},
		"they would grow": {counts(100), unasked(125), counts(100), limited(500), counts(100), neither(most), fills(100),
			{false, false, most, true}, {true, true, most, true}, {false, true, most, true}},
		"they would fall":  {counts(100), unasked(0), limited(0), neither(0), unasked(0), limited(0), neither(0), counts(124), limited(0), counts(125), unasked(0), limited(0), neither(0), counts(0), counts(0), unasked(0), limited(0), fills(0)},
		"ahead of all":     {unasked(100), limited(100), neither(100), unasked(0), limited(0), neither(0), counts(1), counts(1), counts(0), counts(0), fills(0)},
		"in place of last": {counts(100), counts(1), counts(1), unasked(1), limited(1), neither(1), unasked(1), limited(1), neither(1), fills(1)},
		"limited growth":   {counts(100), limited(200), counts(130), limited(400), counts(140), counts(150), fills(160)},
	})
}

// TestFull: once full, it stays full, whatever comes.
func TestFull(t *testing.T) {
	for _, e := range edges[1:] {
		p := at(t, e.best, api.FullRounds)
		full(t, p, true)
		for range 3 {
			for _, bw := range []uint64{0, 1, e.best, e.edge - 1, e.edge, e.edge + 1, 2 * e.edge, 1 << 63, most - 1, most} {
				for kind := range 4 {
					update(t, p, step{kind%2 == 0, kind/2 == 0, bw, true})
				}
			}
		}
	}
}

// TestApart: R2: what is done with one is not to be seen in another.
func TestApart(t *testing.T) {
	a, b := pipe.New(), pipe.New()
	update(t, a, counts(100))
	stands(t, b, 0, 0)
	update(t, b, counts(8))
	update(t, b, counts(9))
	stands(t, a, 125, 0)
	stands(t, b, 10, 1)
	update(t, a, counts(100))
	update(t, a, counts(100))
	update(t, b, counts(10))
	stands(t, a, 125, 2)
	stands(t, b, 12, 0)
	update(t, a, fills(100))
	stands(t, b, 12, 0)
	stands(t, pipe.New(), 0, 0)
	more(t, b, 11, api.FullRounds)
	full(t, a, true)
}

func TestNil(t *testing.T) {
	var none *pipe.Pipe
	full(t, none, false)
	for range 2 * api.FullRounds {
		for _, bw := range []uint64{0, 1, 100, 1 << 63, most} {
			for kind := range 4 {
				update(t, none, step{start: kind%2 == 0, limited: kind/2 == 0, bw: bw})
			}
		}
	}
}
