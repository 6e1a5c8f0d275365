package tsq_test

import (
	"math"
	"math/big"
	"testing"

	"canter/tsq"
)

// whole: an int as a number that has no end; 0, if it is less.
func whole(n int) *big.Int {
	if n < 0 {
		return new(big.Int)
	}
	return big.NewInt(int64(n))
}

// words: the three that the chapter's words speak of, in numbers that have no end.
type words struct {
	twice, share, most *big.Int
}

func wordsOf(rate uint64, tso, most int) words {
	share := new(big.Int).SetUint64(rate)
	return words{
		twice: new(big.Int).Mul(whole(tso), big.NewInt(2)),
		share: share.Div(share, big.NewInt(part)),
		most:  whole(most),
	}
}

// told: the greater one of the first, and of the lesser one of the others.
func (w words) told() *big.Int {
	lesser := w.share
	if w.most.Cmp(lesser) < 0 {
		lesser = w.most
	}
	if w.twice.Cmp(lesser) > 0 {
		return w.twice
	}
	return lesser
}

// seen: how often which of the three was told alone, or two of them at once.
type seen struct {
	twice, share, most, tie int
}

func (s *seen) count(w words, want *big.Int) {
	twice, share, most := w.twice.Cmp(want) == 0, w.share.Cmp(want) == 0, w.most.Cmp(want) == 0
	switch {
	case twice && !share && !most:
		s.twice++
	case share && !twice && !most:
		s.share++
	case most && !twice && !share:
		s.most++
	default:
		s.tie++
	}
}

// asTold: whether an answer is as the second telling has it.
func (s *seen) asTold(t *testing.T, rate uint64, tso, most int) {
	t.Helper()
	w := wordsOf(rate, tso, most)
	want := w.told()
	s.count(w, want)
	n := tsq.Limit(rate, tso, most)
	if new(big.Int).SetUint64(n).Cmp(want) != 0 {
		t.Fatalf("P23.1: Limit(%d, %d, %d): %d; want %v", rate, tso, most, n, want)
	}
	// Below it one more may follow; at it and above it none.
	if tsq.May(n, n) || n > 0 && !tsq.May(n-1, n) || n < math.MaxUint64 && tsq.May(n+1, n) {
		t.Fatalf("P23.1: May of one below, at or above %d", n)
	}
}

// enough: whether each came up so often at least.
func (s *seen) enough(t *testing.T, n int) {
	t.Helper()
	if min(s.twice, s.share, s.most, s.tie) < n {
		t.Errorf("P23.1: too little came up: %+v; want %d of each", *s, n)
	}
}

// TestSmall: all small ones, at the edges of each rate's part.
func TestSmall(t *testing.T) {
	s := new(seen)
	for bytes := range uint64(25) {
		for tso := -2; tso <= 12; tso++ {
			for most := -2; most <= 24; most++ {
				s.asTold(t, bytes*part, tso, most)
				s.asTold(t, bytes*part+1, tso, most)
				s.asTold(t, bytes*part+part-1, tso, most)
			}
		}
	}
	s.enough(t, 1000)
}

// edges: numbers at which something turns over, of each length.
func edges() []int {
	all := []int{math.MinInt, math.MinInt + 1, math.MaxInt - 1, math.MaxInt}
	for bit := 0; bit < 63; bit += 3 {
		all = append(all, 1<<bit-1, 1<<bit, 1<<bit+1, -1<<bit)
	}
	return all
}

// TestEdges: the edges of all three, each with each.
func TestEdges(t *testing.T) {
	s, all := new(seen), edges()
	for _, tso := range all {
		for _, most := range all {
			for _, bytes := range all {
				s.asTold(t, uint64(bytes), tso, most)
				s.asTold(t, uint64(bytes)*part-1, tso, most)
			}
			for _, rate := range []uint64{0, 1, math.MaxUint64 - part, math.MaxUint64 - 1, math.MaxUint64} {
				s.asTold(t, rate, tso, most)
			}
		}
	}
	s.enough(t, 1000)
}

// next: a number that is hard to tell from the one ahead of it.
func next(x uint64) uint64 {
	x ^= x << 13
	x ^= x >> 7
	return x ^ x<<17
}

// TestMixed: many, of each length, and many that are near each other.
func TestMixed(t *testing.T) {
	s, x := new(seen), uint64(23)
	for range 100_000 {
		x = next(x)
		rate := x >> (x % 64)
		x = next(x)
		tso := int(x) >> (x % 64)
		x = next(x)
		most := int(x) >> (x % 64)
		s.asTold(t, rate, tso, most)
		// All three about as great: a step or none apart.
		x = next(x)
		mid := x >> (12 + x%50)
		s.asTold(t, (mid+x>>60%3)*part-x%3, int(mid/2+x>>56%3)-1, int(mid+x>>52%3)-1)
	}
	s.enough(t, 1000)
}

// TestFollows: who hands down a segment of at most tso as long as it may has at most one segment above the limit below.
func TestFollows(t *testing.T) {
	x, over, full := uint64(32), 0, 0
	for range 20_000 {
		x = next(x)
		tso := 1 + int(x%200)
		x = next(x)
		limit := tsq.Limit(x%(2000*part), tso, int(x>>40%2000))
		out, steps := uint64(0), 0
		for tsq.May(out, limit) {
			x = next(x)
			size := 1 + x%uint64(tso)
			out += size
			if steps++; out >= limit+size {
				t.Fatalf("what follows: %d below of a limit of %d, with a last segment of %d", out, limit, size)
			}
		}
		if out < limit || out > limit+uint64(tso)-1 {
			t.Fatalf("what follows: %d below of a limit of %d with segments of %d at most", out, limit, tso)
		}
		// Two segments are so little that there is always room for them.
		if steps < 2 {
			t.Fatalf("what follows: %d segments of %d at most within %d; want two at least", steps, tso, limit)
		}
		if out == limit {
			full++
		} else {
			over++
		}
	}
	if min(over, full) < 100 {
		t.Errorf("what follows: too little came up: above it %d, at it %d", over, full)
	}
}

// TestFollowsDone: likewise, where what is below is done now and then, and the rate turns.
func TestFollowsDone(t *testing.T) {
	x, handed, refused := uint64(7), 0, 0
	for tso := 1; tso <= 3000; tso += 13 {
		out := uint64(0)
		for range 500 {
			x = next(x)
			limit := tsq.Limit(x%(10_000*part), tso, 8000)
			if x = next(x); x%3 == 0 {
				out -= min(out, x>>8%uint64(tso*3))
			}
			if !tsq.May(out, limit) {
				refused++
				continue
			}
			handed++
			if out += uint64(tso); out >= limit+uint64(tso) {
				t.Fatalf("what follows: %d below of a limit of %d with segments of %d", out, limit, tso)
			}
		}
	}
	if min(handed, refused) < 1000 {
		t.Errorf("what follows: too little came up: handed %d, refused %d", handed, refused)
	}
}
