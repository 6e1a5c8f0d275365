package tso_test

import (
	"math"
	"math/big"
	"testing"

	"canter/tso"
)

// told: the chapter's words, one behind the other, in numbers that have no end.
func told(rate uint64, mss int) int {
	held := big.NewInt(int64(mss))
	if mss < minMss {
		held = big.NewInt(minMss)
	}
	if mss > maxMss {
		held = big.NewInt(maxMss)
	}
	segs := new(big.Int).SetUint64(rate)
	segs.Div(segs, big.NewInt(part))
	segs.Div(segs, held)
	if two := big.NewInt(2); segs.Cmp(two) < 0 {
		segs = two
	}
	if most := new(big.Int).Div(big.NewInt(maxTso), held); segs.Cmp(most) > 0 {
		segs = most
	}
	return int(segs.Mul(segs, held).Int64())
}

// seen: how often what came up.
type seen struct {
	two, between, most, small, great int
}

// asTold: whether an answer is as the second telling has it, and what follows.
func (s *seen) asTold(t *testing.T, rate uint64, mss int) {
	t.Helper()
	n := tso.Size(rate, mss)
	if want := told(rate, mss); n != want {
		t.Fatalf("P22.1: Size(%d, %d): %d; want %d", rate, mss, n, want)
	}
	held := min(max(mss, minMss), maxMss)
	if n%held != 0 {
		t.Fatalf("what follows: Size(%d, %d): %d is no multiple of %d", rate, mss, n, held)
	}
	if n < 2*held || n > maxTso {
		t.Fatalf("P22.1: Size(%d, %d): %d; want two segments of %d at least, MaxTso at most", rate, mss, n, held)
	}
	s.count(n, mss, held)
}

func (s *seen) count(n, mss, held int) {
	switch {
	case n == 2*held:
		s.two++
	case n+held > maxTso:
		s.most++
	default:
		s.between++
	}
	if mss < held {
		s.small++
	}
	if mss > held {
		s.great++
	}
}

// enough: whether each came up so often at least.
func (s *seen) enough(t *testing.T, n int) {
	t.Helper()
	if min(s.two, s.between, s.most, s.small, s.great) < n {
		t.Errorf("P22.1: too little came up: %+v; want %d of each", *s, n)
	}
}

// TestSizes: of each mss that may be, and some beside them, each number of segments, at its edges.
func TestSizes(t *testing.T) {
	s := new(seen)
	for mss := minMss - 20; mss <= maxMss+20; mss++ {
		held := uint64(min(max(mss, minMss), maxMss))
		for segs := uint64(0); segs <= maxTso/held+2; segs++ {
			rate := segs * held * part
			if rate > 0 {
				s.asTold(t, rate-1, mss)
			}
			s.asTold(t, rate, mss)
		}
	}
	s.enough(t, 300)
}

// TestEdges: the edges of both, each with each.
func TestEdges(t *testing.T) {
	s := new(seen)
	for _, mss := range []int{math.MinInt, math.MinInt + 1, -1, 0, 1, 99, 100, 101, 1000, 1024, 8999, 9000, 9001, 65_536, 1 << 32, math.MaxInt - 1, math.MaxInt} {
		for bit := range 64 {
			for _, rate := range []uint64{1<<bit - 1, 1 << bit, 1<<bit + 1, math.MaxUint64 - 1<<bit, math.MaxUint64 - 1<<bit + 1} {
				s.asTold(t, rate, mss)
			}
		}
	}
	s.enough(t, 50)
}

// next: a number that is hard to tell from the one ahead of it.
func next(x uint64) uint64 {
	x ^= x << 13
	x ^= x >> 7
	return x ^ x<<17
}

// TestMixed: many rates, of each length, and many mss.
func TestMixed(t *testing.T) {
	s, x := new(seen), uint64(22)
	for range 200_000 {
		x = next(x)
		rate := x >> (x % 64)
		x = next(x)
		mss := int(x%10_000) - 200
		if x>>32%8 == 0 {
			mss = int(x)
		}
		s.asTold(t, rate, mss)
		// And near what the walk goes over.
		x = next(x)
		s.asTold(t, x%(70_000*part), mss)
	}
	s.enough(t, 1000)
}

// TestAgain: an answer hangs on nothing but what was handed in.
func TestAgain(t *testing.T) {
	size(t, 5000*part, 1000, 5000)
	size(t, unlimited, 1, 65_500)
	size(t, 0, math.MaxInt, 18_000)
	size(t, 5000*part, 1000, 5000)
}
