package pipe_test

import (
	"math/big"
	"testing"

	"canter/api"
	"canter/pipe"
)

// told: the chapter's words, one by one.
type told struct {
	best  uint64
	count int
	full  bool
}

// product: best times FullGrowth, divided by Unit, rounded down, by numbers of any length; cut to the greatest one.
func (o *told) product() uint64 {
	v := new(big.Int).SetUint64(o.best)
	v.Mul(v, big.NewInt(api.FullGrowth))
	v.Div(v, big.NewInt(api.Unit))
	if !v.IsUint64() {
		return most
	}
	return v.Uint64()
}

func (o *told) update(start, limited bool, bw uint64) bool {
	if !o.full && start && !limited {
		if bw >= o.product() {
			o.best = bw
			o.count = 0
		} else {
			o.count++
			if o.count == api.FullRounds {
				o.full = true
			}
		}
	}
	return o.full
}

// trial: one, and what it is held against.
type trial struct {
	p    *pipe.Pipe
	want told
}

func (r *trial) update(t *testing.T, start, limited bool, bw uint64) {
	t.Helper()
	r.asked(t)
	before := r.want
	if got, want := r.p.Update(start, limited, bw), r.want.update(start, limited, bw); got != want {
		t.Errorf("P13.1: at %+v: Update(%t, %t, %d): %t; want %t", before, start, limited, bw, got, want)
	}
	r.asked(t)
}

func (r *trial) asked(t *testing.T) {
	t.Helper()
	if got := r.p.Full(); got != r.want.full {
		t.Errorf("P13.1: at %+v: Full: %t", r.want, got)
	}
}

// source: numbers of a run, by a short rule, one from the other.
type source struct {
	x    uint64
	pick func(x uint64) uint64
}

func (r *source) any() uint64 {
	r.x ^= r.x << 13
	r.x ^= r.x >> 7
	r.x ^= r.x << 17
	return r.x
}

func (r *source) number() uint64 { return r.pick(r.any()) }

// below: a number below n, whatever the numbers of the run are.
func (r *source) below(n int) int { return int(r.any() >> 16 % uint64(n)) }

// bandwidth: one of the run's numbers, or one about the edge of growth.
func (r *source) bandwidth(o *told) uint64 {
	switch r.below(8) {
	case 0:
		return o.product() - 1
	case 1, 2:
		return o.product()
	case 3:
		return o.product() + 1
	case 4:
		return o.best
	}
	return r.number()
}

// picks: small numbers, the greatest ones, those of all sizes, and small ones among which the greatest are.
var picks = []func(uint64) uint64{
	func(x uint64) uint64 { return x >> 8 % 3 },
	func(x uint64) uint64 { return x >> 8 % 50 },
	func(x uint64) uint64 { return most - x>>8%4 },
	func(x uint64) uint64 { return even - 4 + x>>8%9 },
	func(x uint64) uint64 { return x >> (x >> 8 % 64) },
	func(x uint64) uint64 {
		if x>>40%20 == 0 {
			return most - x>>8%50
		}
		return x >> 8 % 50
	},
	func(x uint64) uint64 { return x >> 8 % 3 * (most / 2) },
}

// TestRuns: long mixed runs; a new one is begun some steps behind the one at which the last was full.
func TestRuns(t *testing.T) {
	for kind, pick := range picks {
		ended, grown := 0, 0
		for run := range 30 {
			src := &source{uint64(2718281828459045 + 1000*kind + run), pick}
			r := &trial{p: pipe.New()}
			for k := range 1000 {
				if r.want.full && src.below(10) == 0 {
					r = &trial{p: pipe.New()}
					ended++
				}
				before := r.want.count
				r.update(t, src.below(4) > 0, src.below(4) == 0, src.bandwidth(&r.want))
				if before > r.want.count {
					grown++
				}
				if t.Failed() {
					t.Fatalf("numbers of kind %d, run %d, step %d", kind, run, k)
				}
			}
		}
		if ended < 100 || grown < 100 {
			t.Errorf("numbers of kind %d: %d were full, %d times the count began anew: too few to tell", kind, ended, grown)
		}
	}
}

// TestApartRuns: R2: some side by side, each held against its own.
func TestApartRuns(t *testing.T) {
	for kind, pick := range picks {
		src := &source{uint64(1414213562373095 + kind), pick}
		var all [5]*trial
		for i := range all {
			all[i] = &trial{p: pipe.New()}
		}
		for range 4000 {
			i := src.below(len(all))
			if all[i].want.full && src.below(40) == 0 {
				all[i] = &trial{p: pipe.New()}
			}
			all[i].update(t, src.below(4) > 0, src.below(4) == 0, src.bandwidth(&all[i].want))
			for _, r := range all {
				r.asked(t)
			}
			if t.Failed() {
				t.Fatalf("numbers of kind %d", kind)
			}
		}
	}
}

// TestEachRun: all short runs of a few bandwidths, those that count and one each that does not.
func TestEachRun(t *testing.T) {
	for _, values := range [][]uint64{{0, 1, 4, 5, 6}, {even, even + 1, most - 2, most - 1, most}} {
		const length = 6
		kinds := len(values) + 2
		runs := 1
		for range length {
			runs *= kinds
		}
		for run := range runs {
			r := &trial{p: pipe.New()}
			rest := run
			for range length {
				switch kind := rest % kinds; kind {
				case len(values):
					r.update(t, false, false, values[2])
				case len(values) + 1:
					r.update(t, true, true, values[4])
				default:
					r.update(t, true, false, values[kind])
				}
				rest /= kinds
			}
			if t.Failed() {
				t.Fatalf("run %d", run)
			}
		}
	}
}

// TestLink: what is sent doubles with each round, till the link has no more: the pipe is full FullRounds behind that, and stays so.
func TestLink(t *testing.T) {
	for _, first := range []uint64{4, 7, 1000, most >> 41} {
		for doublings := range 40 {
			r := &trial{p: pipe.New()}
			link := first << doublings
			for round := range doublings + 20 {
				r.update(t, true, false, first<<min(round, doublings))
				if full := round >= doublings+api.FullRounds; r.p.Full() != full {
					t.Errorf("a link of %d: behind round %d: %t", link, round, !full)
				}
				r.update(t, false, false, link/2)
				r.update(t, true, true, link/3)
			}
			if t.Failed() {
				t.FailNow()
			}
		}
	}
}

// TestStays: what follows: of any run, what was full once is full behind all that comes.
func TestStays(t *testing.T) {
	for kind, pick := range picks {
		for run := range 40 {
			src := &source{uint64(1732050807568877 + 1000*kind + run), pick}
			p := pipe.New()
			was := false
			for k := range 300 {
				is := p.Update(src.below(2) == 0, src.below(4) == 0, src.number())
				if was && !is || p.Full() != is {
					t.Fatalf("what follows: numbers of kind %d, run %d, step %d: full %t, then %t", kind, run, k, was, is)
				}
				was = is
			}
		}
	}
}
