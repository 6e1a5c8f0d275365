package rounds_test

import (
	"math"
	"testing"

	"canter/api"
	"canter/rounds"
)

const most = math.MaxUint64

// step: an Update of a sample with these, and whether a round is to begin with it.
type step struct {
	acked, prior, delivered uint64
	want                    bool
}

func (s step) sample() api.Sample {
	return api.Sample{Acked: s.acked, Prior: s.prior, Delivered: s.delivered}
}

// update: Update(s), and what it is to answer.
func update(t *testing.T, r *rounds.Rounds, s api.Sample, want bool) {
	t.Helper()
	if got := r.Update(s); got != want {
		t.Errorf("P11.1: Update(%+v): %t; want %t", s, got, want)
	}
}

// count: whether Count tells that, and turns nothing: a second one tells it too.
func count(t *testing.T, r *rounds.Rounds, want uint64) {
	t.Helper()
	for range 2 {
		if got := r.Count(); got != want {
			t.Errorf("P11.1: Count: %d; want %d", got, want)
		}
	}
}

// rows: runs from the beginning on, each step with its answer, and Count behind it.
func rows(t *testing.T, runs map[string][]step) {
	t.Helper()
	for name, steps := range runs {
		t.Run(name, func(t *testing.T) {
			r := rounds.New()
			begun := uint64(0)
			for i, s := range steps {
				update(t, r, s.sample(), s.want)
				if s.want {
					begun++
				}
				count(t, r, begun)
				if t.Failed() {
					t.Fatalf("step %d", i)
				}
			}
		})
	}
}

// at: one whose next is n, with one round begun.
func at(t *testing.T, n uint64) *rounds.Rounds {
	t.Helper()
	r := rounds.New()
	update(t, r, api.Sample{Acked: 1, Delivered: n}, true)
	return r
}

// next: whether next is n, held at its edges: a round begins with n as Prior, none with one below it. It stays n, and one more round has begun.
func next(t *testing.T, r *rounds.Rounds, n uint64) {
	t.Helper()
	before := r.Count()
	if n > 0 {
		update(t, r, api.Sample{Acked: 1, Prior: n - 1, Delivered: n + 5}, false)
		count(t, r, before)
	}
	update(t, r, api.Sample{Acked: 1, Prior: n, Delivered: n}, true)
	count(t, r, before+1)
}

func TestExample(t *testing.T) {
	r := rounds.New()
	update(t, r, api.Sample{Acked: 1, Prior: 0}, true)
	count(t, r, 1)
}

// TestBeginning: none has begun, and next is 0: whatever Prior is, the first sample of which something is acknowledged begins one.
func TestBeginning(t *testing.T) {
	for _, prior := range []uint64{0, 1, 2, 1000, 1 << 63, most - 1, most} {
		for _, r := range []*rounds.Rounds{rounds.New(), {}} { // R1: the second one New did not make
			count(t, r, 0)
			update(t, r, api.Sample{Prior: prior, Delivered: 9}, false)
			count(t, r, 0)
			update(t, r, api.Sample{Acked: 1, Prior: prior, Delivered: 7}, true)
			count(t, r, 1)
			next(t, r, 7)
		}
	}
}

// TestEdges: Prior one below next, at next, and one above it, of small and of the greatest numbers.
func TestEdges(t *testing.T) {
	for _, n := range []uint64{0, 1, 2, 100, 1<<32 - 1, 1 << 32, 1<<63 - 1, 1 << 63, 1<<63 + 1, most - 1, most} {
		for _, delivered := range []uint64{0, 1, n, n / 2, 1 << 63, most} {
			for _, acked := range []uint64{1, 2, most} {
				if n > 0 {
					r := at(t, n)
					update(t, r, api.Sample{Acked: acked, Prior: n - 1, Delivered: delivered}, false)
					count(t, r, 1)
					next(t, r, n)
				}
				r := at(t, n)
				update(t, r, api.Sample{Acked: acked, Prior: n, Delivered: delivered}, true)
				count(t, r, 2)
				next(t, r, delivered)
				if n < most {
					r := at(t, n)
					update(t, r, api.Sample{Acked: acked, Prior: n + 1, Delivered: delivered}, true)
					count(t, r, 2)
					next(t, r, delivered)
				}
			}
		}
	}
}

// TestNotAcked: with Acked 0, whatever else the sample says, none begins, and next stays.
func TestNotAcked(t *testing.T) {
	numbers := []uint64{0, 1, 99, 100, 101, 1 << 63, most}
	for _, n := range numbers {
		for _, prior := range numbers {
			for _, delivered := range numbers {
				r := at(t, n)
				for _, s := range []api.Sample{
					{Prior: prior, Delivered: delivered},
					{Prior: prior, Delivered: delivered, Now: most, Interval: most, Rtt: most, Lost: most, Flight: most, Limited: true},
				} {
					update(t, r, s, false)
					count(t, r, 1)
				}
				next(t, r, n)
			}
		}
	}
}

// TestFalls: next is Delivered as it is, though it was more before.
func TestFalls(t *testing.T) {
	rows(t, map[string][]step{
		"by one":        {{1, 0, 100, true}, {1, 100, 99, true}, {1, 98, 500, false}, {1, 99, 99, true}},
		"far":           {{1, 0, 100, true}, {1, 100, 10, true}, {1, 9, 500, false}, {1, 10, 300, true}, {1, 299, 1, false}, {1, 300, 1, true}, {1, 1, 1, true}},
		"to 0":          {{1, 0, 100, true}, {1, 150, 0, true}, {1, 0, 0, true}, {1, 0, 9, true}, {1, 8, 0, false}},
		"below Prior":   {{1, 50, 20, true}, {1, 19, 90, false}, {1, 20, 90, true}},
		"from the most": {{1, 0, most, true}, {1, most, 3, true}, {1, 2, most, false}, {1, 3, most, true}},
		"not if none":   {{1, 0, 100, true}, {1, 99, 10, false}, {1, 50, 60, false}, {0, 100, 10, false}, {1, 99, 200, false}, {1, 100, 200, true}},
		"stays":         {{1, 0, 100, true}, {1, 100, 100, true}, {1, 100, 100, true}, {1, 99, 100, false}},
	})
}

// TestGreatest: the greatest number as Prior, as Delivered, as next and as Acked.
func TestGreatest(t *testing.T) {
	rows(t, map[string][]step{
		"Prior":     {{1, most, 5, true}, {1, most, 9, true}, {1, 8, 9, false}, {1, most, 10, true}},
		"Delivered": {{1, 0, most, true}, {1, 0, 0, false}, {1, most - 1, 0, false}, {1, most, most, true}, {1, most - 1, 7, false}, {1, most, 7, true}, {1, 7, 7, true}},
		"below it":  {{1, 0, most - 1, true}, {1, most - 2, 0, false}, {1, most - 1, most - 1, true}, {1, most, 0, true}, {1, 0, 0, true}},
		"Acked":     {{most, 0, 5, true}, {most, 4, 9, false}, {most, 5, 9, true}},
		"all":       {{most, most, most, true}, {most, most, most, true}, {most, most - 1, most, false}, {0, most, most, false}},
		"half":      {{1, 0, 1 << 63, true}, {1, 1<<63 - 1, 1, false}, {1, 1 << 63, 1, true}},
	})
}

// TestCount: in the beginning, behind an Update that answered true, and behind one that answered false.
func TestCount(t *testing.T) {
	r := rounds.New()
	count(t, r, 0)
	update(t, r, api.Sample{Delivered: 50}, false)
	count(t, r, 0)
	for n := range uint64(1000) {
		update(t, r, api.Sample{Acked: 10, Prior: 10 * n, Delivered: 10 * (n + 1)}, true)
		count(t, r, n+1)
		update(t, r, api.Sample{Acked: 1, Prior: 10*(n+1) - 1, Delivered: 10 * (n + 2)}, false)
		update(t, r, api.Sample{Prior: 10 * (n + 1), Delivered: 10 * (n + 2)}, false)
		count(t, r, n+1)
	}
}

// TestOthers: Now, Interval, Rtt, Lost, Flight and Limited play no part.
func TestOthers(t *testing.T) {
	steps := []step{{0, 5, 50, false}, {1, 0, 100, true}, {1, 99, 300, false}, {0, 100, 300, false}, {2, 100, 200, true}, {1, 201, 150, true}, {1, 149, 1, false}, {1, 150, 1, true}}
	numbers := []uint64{0, 1, 100, 150, most}
	for kind := range 6 {
		for _, v := range numbers {
			r := rounds.New()
			for _, x := range steps {
				s := x.sample()
				switch kind {
				case 0:
					s.Now = v
				case 1:
					s.Interval = v
				case 2:
					s.Rtt = v
				case 3:
					s.Lost = v
				case 4:
					s.Flight = v
				default:
					s.Limited = v%2 == 1
				}
				update(t, r, s, x.want)
			}
			count(t, r, 4)
		}
	}
}

// TestApart: R2: what is done with one is not to be seen in another.
func TestApart(t *testing.T) {
	a, b := rounds.New(), rounds.New()
	update(t, a, api.Sample{Acked: 1, Delivered: 100}, true)
	count(t, b, 0)
	update(t, b, api.Sample{Acked: 1, Prior: 5, Delivered: 10}, true)
	update(t, b, api.Sample{Acked: 1, Prior: 10, Delivered: 20}, true)
	count(t, a, 1)
	next(t, a, 100)
	next(t, b, 20)
	count(t, rounds.New(), 0)
	next(t, rounds.New(), 0)
}

func TestNil(t *testing.T) {
	var none *rounds.Rounds
	for _, v := range []uint64{0, 1, 100, most} {
		for _, acked := range []uint64{0, 1, most} {
			update(t, none, api.Sample{Acked: acked, Prior: v, Delivered: v}, false)
			update(t, none, api.Sample{Acked: acked, Prior: v, Delivered: most - v, Now: v, Interval: v, Rtt: v, Lost: v, Flight: v, Limited: true}, false)
			count(t, none, 0)
		}
	}
}
