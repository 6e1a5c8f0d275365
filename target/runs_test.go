package target_test

import (
	"math/big"
	"slices"
	"testing"

	"canter/api"
	"canter/target"
)

func whole(v uint64) *big.Int { return new(big.Int).SetUint64(v) }

// cut: n; the greatest number, if it is greater.
func cut(n *big.Int) uint64 {
	if n.IsUint64() {
		return n.Uint64()
	}
	return most
}

// The chapter's words, by numbers of any length.

func share(a, b, c uint64) uint64 {
	n := new(big.Int).Mul(whole(a), whole(b))
	return cut(n.Div(n, whole(c)))
}

func often(n, v uint64) uint64 { return cut(new(big.Int).Mul(whole(n), whole(v))) }

func both(a, b uint64) uint64 { return cut(new(big.Int).Add(whole(a), whole(b))) }

func wantBdp(bw, rtt, gain uint64) uint64 {
	return share(share(bw, rtt, 1_000_000_000), gain, 256)
}

func wantWindow(bw, rtt, gain, tso, mss uint64) uint64 {
	if rtt == 0 {
		return often(10, mss)
	}
	sum := both(wantBdp(bw, rtt, gain), often(3, tso))
	least := often(4, mss)
	if sum < least {
		return least
	}
	return sum
}

func wantRate(bw, gain uint64) uint64 { return share(bw, gain, 256) }

// hold: all three calls of these, against the chapter's words.
func hold(t *testing.T, bw, rtt, gain, tso, mss uint64) {
	t.Helper()
	bdp(t, bw, rtt, gain, wantBdp(bw, rtt, gain))
	window(t, bw, rtt, gain, tso, mss, wantWindow(bw, rtt, gain, tso, mss))
	rate(t, bw, gain, wantRate(bw, gain))
}

// source: numbers of a run, by a short rule, one from the other.
type source struct {
	x    uint64
	pick func(x uint64) uint64
}

func (r *source) any() uint64 {
	r.x ^= r.x << 13
	r.x ^= r.x >> 7
	r.x ^= r.x << 17
	return r.x
}

func (r *source) number() uint64 { return r.pick(r.any()) }

// below: a number below n, whatever the numbers of the run are.
func (r *source) below(n int) int { return int(r.any() >> 16 % uint64(n)) }

// kinds: small numbers, the greatest ones, those of all sizes, small ones among which the greatest are, and those of a path.
func kinds() []func(uint64) uint64 {
	return []func(uint64) uint64{
		func(x uint64) uint64 { return x >> 8 % 3 },
		func(x uint64) uint64 { return x >> 8 % 2000 },
		func(x uint64) uint64 { return most - x>>8%4 },
		func(x uint64) uint64 { return x >> (x >> 8 % 64) },
		func(x uint64) uint64 {
			if x>>40%4 == 0 {
				return most - x>>8%50
			}
			return x >> 8 % 50
		},
		func(x uint64) uint64 { return x >> 8 % 3 * (most / 2) },
		func(x uint64) uint64 { return x >> 8 % (4 * api.Second) },
	}
}

// TestRuns: long mixed runs of all three, with small and with the greatest numbers; rtt is now and then about Second, and gain about Unit, for else most of what small numbers give is 0.
func TestRuns(t *testing.T) {
	for kind, pick := range kinds() {
		for run := range 20 {
			src := &source{uint64(3141592653589793 + 1000*kind + run), pick}
			for k := range 500 {
				bw, rtt, gain, tso, mss := src.number(), src.number(), src.number(), src.number(), src.number()
				if src.below(2) == 0 {
					rtt = uint64(api.Second - 3 + src.below(7))
				}
				if src.below(2) == 0 {
					gain = uint64(src.below(1000))
				}
				switch src.below(6) {
				case 0:
					rtt = 0
				case 1:
					mss = (wantBdp(bw, rtt, gain) + 3*tso + uint64(src.below(9))) / 4
				}
				hold(t, bw, rtt, gain, tso, mss)
				if t.Failed() {
					t.Fatalf("numbers of kind %d, run %d, step %d", kind, run, k)
				}
			}
		}
	}
}

// edges: rising; the ends, what is beside Unit and Second, and where products are first too great.
func edges() []uint64 {
	return []uint64{0, 1, 2, 3, 4, 100, 255, 256, 257, 512, 739, 9000, 65_536, api.Second - 1, api.Second, api.Second + 1, 1 << 32, most / 1_000_000, 1<<56 - 1, 1 << 56, most / 10, most/10 + 1, most / 4, most/4 + 1, most / 3, most/3 + 1, half - 1, half, half + 1, most - 1, most}
}

// TestEdges: all of the edges with each other for Bdp and Rate; for Window those of tso and mss, with the ends of the rest.
func TestEdges(t *testing.T) {
	ends := []uint64{0, 1, 100, most / 4, most/3 + 1, most}
	for _, bw := range edges() {
		for _, rtt := range edges() {
			for _, gain := range edges() {
				bdp(t, bw, rtt, gain, wantBdp(bw, rtt, gain))
			}
		}
		for _, gain := range edges() {
			rate(t, bw, gain, wantRate(bw, gain))
		}
	}
	for _, tso := range edges() {
		for _, mss := range edges() {
			for _, bw := range ends {
				for _, rtt := range []uint64{0, 1, api.Second, most} {
					for _, gain := range []uint64{0, api.Unit - 1, api.Unit, most} {
						window(t, bw, rtt, gain, tso, mss, wantWindow(bw, rtt, gain, tso, mss))
					}
				}
			}
		}
	}
}

// rising: whether answers, as one number of a call goes up, never go down.
func rising(t *testing.T, what string, numbers []uint64, answer func(v uint64) uint64) {
	t.Helper()
	before := uint64(0)
	for i, v := range numbers {
		got := answer(v)
		if i > 0 && got < before {
			t.Errorf("what follows: %s: %d for %d, and %d for %d", what, before, numbers[i-1], got, v)
		}
		before = got
	}
}

// TestMore: more bandwidth, a longer round trip, a greater gain: never less under way, nor a lower rate. A round trip of 0 is none, and has a window of its own.
func TestMore(t *testing.T) {
	for kind, pick := range kinds() {
		for run := range 10 {
			src := &source{uint64(1618033988749894 + 1000*kind + run), pick}
			numbers := edges()
			for range 40 {
				numbers = append(numbers, src.number())
			}
			slices.Sort(numbers)
			trips := slices.DeleteFunc(slices.Clone(numbers), func(v uint64) bool { return v == 0 })
			for range 10 {
				bw, rtt, gain, tso, mss := src.number(), max(src.number(), 1), src.number(), src.number(), src.number()
				if src.below(2) == 0 {
					rtt, gain = api.Second, api.Unit
				}
				rising(t, "Bdp, by bw", numbers, func(v uint64) uint64 { return target.Bdp(v, rtt, gain) })
				rising(t, "Bdp, by rtt", numbers, func(v uint64) uint64 { return target.Bdp(bw, v, gain) })
				rising(t, "Bdp, by gain", numbers, func(v uint64) uint64 { return target.Bdp(bw, rtt, v) })
				rising(t, "Window, by bw", numbers, func(v uint64) uint64 { return target.Window(v, rtt, gain, tso, mss) })
				rising(t, "Window, by rtt", trips, func(v uint64) uint64 { return target.Window(bw, v, gain, tso, mss) })
				rising(t, "Window, by gain", numbers, func(v uint64) uint64 { return target.Window(bw, rtt, v, tso, mss) })
				rising(t, "Window, by tso", numbers, func(v uint64) uint64 { return target.Window(bw, rtt, gain, v, mss) })
				rising(t, "Window, by mss", numbers, func(v uint64) uint64 { return target.Window(bw, rtt, gain, tso, v) })
				rising(t, "Rate, by bw", numbers, func(v uint64) uint64 { return target.Rate(v, gain) })
				rising(t, "Rate, by gain", numbers, func(v uint64) uint64 { return target.Rate(bw, v) })
			}
			if t.Failed() {
				t.Fatalf("numbers of kind %d, run %d", kind, run)
			}
		}
	}
}

// TestAgain: R2: a call answers what it answered before, whatever was asked between.
func TestAgain(t *testing.T) {
	for range 3 {
		bdp(t, 999, api.Second+1, 300, 1170)
		rate(t, most, most, most)
		window(t, 999, api.Second+1, 300, 10, 100, 1200)
		window(t, 999, 0, 300, 10, 100, 1000)
		rate(t, 0, 0, 0)
	}
}
