package delay_test

import (
	"math"
	"math/big"
	"slices"
	"testing"

	"canter/delay"
)

// numbers: those around each power of 2 and around what the chapter names, and some of all sizes from a short rule; rising.
func numbers() []uint64 {
	l := []uint64{0, 999, 1000, 1001, 1500, 9_000, 65_536}
	for _, v := range []uint64{second / 2, second, 2 * second, 18_446_744_073, 18_446_744_074, 36_893_488_147} {
		l = append(l, v-1, v, v+1)
	}
	for bit := range 64 {
		v := uint64(1) << bit
		l = append(l, v-1, v, v+1)
	}
	l = append(l, most-2, most-1, most)
	x := uint64(88172645463325252)
	for i := range 128 {
		x ^= x << 13
		x ^= x >> 7
		x ^= x << 17
		l = append(l, x>>(i%64))
	}
	slices.Sort(l)
	return slices.Compact(l)
}

// sizes: some below 1, and the numbers that are sizes; rising.
func sizes() []int {
	l := []int{math.MinInt, math.MinInt + 1, -second, -1000, -2, -1}
	for _, v := range numbers() {
		if v <= great {
			l = append(l, int(v))
		}
	}
	return l
}

func whole(v uint64) *big.Int { return new(big.Int).SetUint64(v) }

// told: what the chapter says that Of answers, by numbers of any length.
func told(size int, rate uint64) uint64 {
	if size < 1 {
		return 0
	}
	if rate == unlimited {
		return 0
	}
	if rate == 0 {
		return maxDelay // MulDiv answers 2^64 - 1, of which and MaxDelay that is the lesser one
	}
	n := new(big.Int).Mul(big.NewInt(int64(size)), big.NewInt(second))
	n.Div(n, whole(rate))
	if n.Cmp(big.NewInt(maxDelay)) > 0 {
		return maxDelay
	}
	return n.Uint64()
}

func TestOfWhole(t *testing.T) {
	for _, size := range sizes() {
		for _, rate := range numbers() {
			of(t, size, rate, told(size, rate))
		}
	}
}

// TestOfSmall: all small sizes at all small rates, where most of them are far above MaxDelay or near it.
func TestOfSmall(t *testing.T) {
	for size := -3; size < 200; size++ {
		for rate := range uint64(300) {
			of(t, size, rate, told(size, rate))
		}
	}
}

// TestOfNear: the greatest rate at which a size takes that long, and one more.
func TestOfNear(t *testing.T) {
	for _, size := range sizes() {
		for _, d := range []uint64{1, 2, 3, 1000, maxDelay / 2, maxDelay - 1, maxDelay} {
			n := new(big.Int).Mul(big.NewInt(int64(size)), big.NewInt(second))
			n.Div(n, whole(d))
			if size < 1 || !n.IsUint64() || n.Uint64() >= unlimited-1 {
				continue
			}
			rate := n.Uint64()
			if v := delay.Of(size, rate); v < d {
				t.Errorf("P18.1: Of(%d, %d): %d; want %d at least", size, rate, v, d)
			}
			if v := delay.Of(size, rate+1); v >= d {
				t.Errorf("P18.1: Of(%d, %d): %d; want less than %d", size, rate+1, v, d)
			}
		}
	}
}

func TestLesserWhole(t *testing.T) {
	for _, a := range numbers() {
		for _, b := range numbers() {
			want := uint64(unlimited)
			if a != 0 {
				want = a
			}
			if b != 0 && b < want {
				want = b
			}
			lesser(t, a, b, want)
		}
	}
}

// TestSlower: a slower one takes no less; a rate of 0 is the slowest one here.
func TestSlower(t *testing.T) {
	for _, size := range sizes() {
		ahead := uint64(maxDelay)
		for _, rate := range numbers() {
			d := delay.Of(size, rate)
			if d > ahead {
				t.Errorf("what follows: Of(%d, %d): %d; at a slower rate: %d", size, rate, d, ahead)
			}
			ahead = d
		}
	}
}

// TestMore: more takes no less.
func TestMore(t *testing.T) {
	for _, rate := range numbers() {
		ahead := uint64(0)
		for _, size := range sizes() {
			d := delay.Of(size, rate)
			if d < ahead {
				t.Errorf("what follows: Of(%d, %d): %d; of less: %d", size, rate, d, ahead)
			}
			ahead = d
		}
	}
}

// TestLesserTakesLonger: by the lesser one of two rates, a segment takes as long as by that one of them by which it takes longer.
func TestLesserTakesLonger(t *testing.T) {
	for _, a := range numbers() {
		for _, b := range numbers() {
			if a == 0 || b == 0 {
				continue
			}
			want := max(delay.Of(1500, a), delay.Of(1500, b))
			if d := delay.Of(1500, delay.Lesser(a, b)); d != want {
				t.Errorf("what follows: Of(1500, the lesser one of %d and %d): %d; want %d", a, b, d, want)
			}
		}
	}
}
