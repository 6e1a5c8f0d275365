package delay_test

import (
	"math"
	"testing"

	"canter/api"
	"canter/delay"
)

const (
	most  = math.MaxUint64
	half  = 1 << 63
	great = math.MaxInt // the greatest size
)

// The numbers that the document names stand here by hand, so that a test does not lean on what it tests.
const (
	second    = 1_000_000_000
	maxDelay  = 1_000_000_000
	unlimited = most
)

func TestNumbers(t *testing.T) {
	if api.Second != second || api.MaxDelay != maxDelay || api.Unlimited != uint64(unlimited) {
		t.Errorf("P18.1: Second %d, MaxDelay %d, Unlimited %d", api.Second, api.MaxDelay, uint64(api.Unlimited))
	}
}

func TestExample(t *testing.T) {
	if d := delay.Of(1000, 1000000); d != 1000000 {
		t.Errorf("P18.1: example 1: Of(1000, 1000000): %d; want 1000000", d)
	}
}

func of(t *testing.T, size int, rate, want uint64) {
	t.Helper()
	if d := delay.Of(size, rate); d != want {
		t.Errorf("P18.1: Of(%d, %d): %d; want %d", size, rate, d, want)
	}
}

func lesser(t *testing.T, a, b, want uint64) {
	t.Helper()
	if v := delay.Lesser(a, b); v != want {
		t.Errorf("P18.1: Lesser(%d, %d): %d; want %d", a, b, v, want)
	}
}

// TestNoSize: below 1, there is nothing that takes time, at no rate whatever.
func TestNoSize(t *testing.T) {
	for _, size := range []int{0, -1, -2, -1000, -second, math.MinInt + 1, math.MinInt} {
		for _, rate := range []uint64{0, 1, 2, 1000, second - 1, second, second + 1, half - 1, half, unlimited - 1, unlimited} {
			of(t, size, rate, 0)
		}
	}
}

// TestNoRate: at a rate of 0, whatever is there takes as long as can be.
func TestNoRate(t *testing.T) {
	for _, size := range []int{1, 2, 1000, second - 1, second, second + 1, great - 1, great} {
		of(t, size, 0, maxDelay)
	}
}

// TestUnlimited: it takes no time; at one below, the greatest sizes take some.
func TestUnlimited(t *testing.T) {
	for _, size := range []int{1, 2, 1000, second, great - 1, great} {
		of(t, size, unlimited, 0)
	}
	of(t, great, unlimited-1, 500_000_000) // 2^63 - 1 is half of 2^64 - 2
	of(t, great-1, unlimited-1, 499_999_999)
	of(t, great, unlimited-2, 500_000_000)
	of(t, 1, unlimited-1, 0)
	of(t, 1000, unlimited-1, 0)
}

func TestOf(t *testing.T) {
	for _, r := range []struct {
		size       int
		rate, want uint64
	}{
		{1000, 1_000_000, 1_000_000},
		{1, 2, 500_000_000},
		{1, 3, 333_333_333},
		{2, 3, 666_666_666},
		{1, 1000, 1_000_000},
		{1500, 125_000_000, 12_000},
		{1500, 1_250_000_000, 1_200},
		{9_000, 1_250_000, 7_200_000},
		{65_536, 65_537, 999_984_741},
		{65_536, 10_000_000, 6_553_600},
		{7, 11, 636_363_636},
		{1 << 30, 1 << 31, 500_000_000},
	} {
		of(t, r.size, r.rate, r.want)
	}
}

// TestRoundedDown: what is over does not count, were it all but one.
func TestRoundedDown(t *testing.T) {
	of(t, 1, second-1, 1)
	of(t, 1, second, 1)
	of(t, 1, second+1, 0)
	of(t, 1, 500_000_000, 2)
	of(t, 1, 500_000_001, 1)
	of(t, 2, 2*second, 1)
	of(t, 2, 2*second+1, 0)
	of(t, 1000, 1000*second, 1)
	of(t, 1000, 1000*second+1, 0)
	of(t, 999, 500*second, 1)
	of(t, 1000, 500*second, 2)
	of(t, 1001, 500*second, 2)
	of(t, 10, half, 0)
}

// TestMaxDelay: one below, at and one above it, and far above.
func TestMaxDelay(t *testing.T) {
	of(t, second-1, second, maxDelay-1)
	of(t, second, second, maxDelay)
	of(t, second+1, second, maxDelay)   // one above
	of(t, second+2, second, maxDelay)   // two above
	of(t, 2*second, second, maxDelay)   // twice
	of(t, 2*second-1, second, maxDelay) // one below twice

	of(t, 1, 1, maxDelay)
	of(t, 2, 1, maxDelay)
	of(t, great, 1, maxDelay) // more than 2^64 - 1, which MulDiv cuts
	of(t, 1, 2, maxDelay/2)
	of(t, 2, 2, maxDelay)
	of(t, 3, 2, maxDelay)

	// Just below, rounded down, and just above, rounded down to it.
	of(t, 2*second-1, 2*second, maxDelay-1)
	of(t, 2*second, 2*second, maxDelay)
	of(t, 2*second+1, 2*second, maxDelay)
	of(t, 2*second+2, 2*second, maxDelay)
	of(t, 3*second-3, 3*second, maxDelay-1)
	of(t, 3*second-4, 3*second, maxDelay-2)

	of(t, great, half, maxDelay-1)
	of(t, great, half-1, maxDelay)
	of(t, great, half-2, maxDelay)
	of(t, great-1, half-1, maxDelay-1)
}

// TestWide: size times Second does not fit into 64 bits from 18,446,744,074 on, which is 290,448,384 above 2^64.
func TestWide(t *testing.T) {
	of(t, 18_446_744_073, 18_446_744_073, maxDelay)
	of(t, 18_446_744_073, 1<<62, 3)
	of(t, 18_446_744_073, half, 1) // one byte less than what two take
	of(t, 18_446_744_074, half, 2)
	of(t, 18_446_744_074, 1<<62, 4)
	of(t, 18_446_744_074, 290_448_384, maxDelay)
	of(t, 18_446_744_074, 18_446_744_075, maxDelay-1)
	of(t, 36_893_488_148, half, 4)
	of(t, 36_893_488_147, half, 3)
	of(t, 1<<62, half, 500_000_000)
	of(t, 1<<62, half+1<<62, 333_333_333)
	of(t, 1<<40, 1<<41, 500_000_000)
	of(t, 1<<40, 1<<60, 953)

	// 2^55 times Second is 1,953,125 times 2^64, of which nothing would be left, if it went round.
	of(t, 1<<55, 1<<55+1, maxDelay-1)
	of(t, 1<<55, 1<<63, 3_906_250)
	of(t, 1<<62, 1<<62, maxDelay)
}

func TestLesser(t *testing.T) {
	for _, r := range []struct{ a, b, want uint64 }{
		{5, 7, 5},
		{5, 6, 5},
		{5, 5, 5},
		{1, 2, 1},
		{1, 1, 1},
		{1, unlimited - 1, 1},
		{second, second + 1, second},
		{half - 1, half, half - 1},
		{half, half + 1, half},
		{half, half, half},
		{unlimited - 2, unlimited - 1, unlimited - 2},
		{unlimited - 1, unlimited - 1, unlimited - 1},

		{0, 0, unlimited},
		{0, 1, 1},
		{0, 2, 2},
		{0, 5, 5},
		{0, half, half},
		{0, unlimited - 1, unlimited - 1},
		{0, unlimited, unlimited},

		{unlimited, 1, 1},
		{unlimited, 5, 5},
		{unlimited, half, half},
		{unlimited, unlimited - 1, unlimited - 1},
		{unlimited, unlimited, unlimited},
	} {
		lesser(t, r.a, r.b, r.want)
		lesser(t, r.b, r.a, r.want)
	}
}

// TestBoth: what the lesser one of two rates makes of a segment; a socket's and a config's, of which either may be 0.
func TestBoth(t *testing.T) {
	for _, r := range []struct {
		a, b, want uint64
	}{
		{1_000_000, 2_000_000, 1_000_000},
		{2_000_000, 4_000_000, 500_000},
		{0, 4_000_000, 250_000},
		{0, 0, 0}, // neither is a limit
		{0, unlimited, 0},
		{unlimited, unlimited, 0},
		{unlimited, 1, maxDelay},
	} {
		for _, v := range []uint64{delay.Lesser(r.a, r.b), delay.Lesser(r.b, r.a)} {
			if d := delay.Of(1000, v); d != r.want {
				t.Errorf("P18.1: Of(1000, the lesser one of %d and %d): %d; want %d", r.a, r.b, d, r.want)
			}
		}
	}
}
