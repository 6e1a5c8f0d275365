package tso_test

import (
	"math"
	"testing"

	"canter/api"
	"canter/tso"
)

// The numbers that the document names stand here by hand, so that a test does not lean on what it tests.
const (
	minMss    = 100
	maxMss    = 9_000
	maxTso    = 65_536
	part      = 1_024
	unlimited = math.MaxUint64
)

func TestNumbers(t *testing.T) {
	if api.MinMss != minMss || api.MaxMss != maxMss || api.MaxTso != maxTso || api.Unlimited != uint64(unlimited) {
		t.Errorf("P22.1: MinMss %d, MaxMss %d, MaxTso %d, Unlimited %d", api.MinMss, api.MaxMss, api.MaxTso, uint64(api.Unlimited))
	}
}

func size(t *testing.T, rate uint64, mss, want int) {
	t.Helper()
	if n := tso.Size(rate, mss); n != want {
		t.Errorf("P22.1: Size(%d, %d): %d; want %d", rate, mss, n, want)
	}
}

func TestExample(t *testing.T) {
	size(t, 0, 1000, 2000)
}

// TestMss: what may not be counts as the nearest that may.
func TestMss(t *testing.T) {
	for _, row := range []struct {
		mss []int
		// What goes with no rate, with one that has some 30,000 bytes in that time, and with all there is.
		least, some, most int
	}{
		{[]int{math.MinInt, math.MinInt + 1, -1 << 32, -maxMss, -1001, -minMss, -2, -1, 0, 1, 2, 50, 98, 99, 100}, 200, 30_000, 65_500},
		{[]int{101}, 202, 29_997, 65_448},
		{[]int{102}, 204, 29_988, 65_484},
		{[]int{1460}, 2920, 29_200, 64_240},
		{[]int{8998}, 17_996, 26_994, 62_986},
		{[]int{8999}, 17_998, 26_997, 62_993},
		{[]int{9000, 9001, 9002, 10_000, maxTso, 1 << 31, 1<<32 + 1000, 1 << 40, 1 << 62, math.MaxInt - 1, math.MaxInt}, 18_000, 27_000, 63_000},
	} {
		for _, mss := range row.mss {
			size(t, 0, mss, row.least)
			size(t, 30_000*part, mss, row.some)
			size(t, unlimited, mss, row.most)
		}
	}
}

// TestRate: each edge of a rate, in bytes of that part of a second, and one below and above it.
func TestRate(t *testing.T) {
	for _, row := range []struct {
		mss int
		// At bytes in that time so many go; at one less, and at a rate of one less, so many.
		bytes uint64
		below int
		at    int
	}{
		{100, 1, 200, 200}, {1000, 1, 2000, 2000}, {9000, 1, 18_000, 18_000},
		{100, 100, 200, 200}, {1000, 1000, 2000, 2000}, {9000, 9000, 18_000, 18_000},
		{100, 200, 200, 200}, {1000, 2000, 2000, 2000}, {9000, 18_000, 18_000, 18_000},
		{100, 300, 200, 300}, {1000, 3000, 2000, 3000}, {9000, 27_000, 18_000, 27_000},
		{100, 400, 300, 400}, {1000, 4000, 3000, 4000}, {9000, 36_000, 27_000, 36_000},
		{101, 303, 202, 303}, {1460, 4380, 2920, 4380}, {8999, 26_997, 17_998, 26_997},
		// As many as MaxTso has; one less; one more.
		{100, 65_500, 65_400, 65_500}, {1000, 65_000, 64_000, 65_000}, {9000, 63_000, 54_000, 63_000},
		{101, 65_448, 65_347, 65_448}, {1460, 64_240, 62_780, 64_240}, {8999, 62_993, 53_994, 62_993},
		{100, 65_400, 65_300, 65_400}, {1000, 64_000, 63_000, 64_000}, {9000, 54_000, 45_000, 54_000},
		{100, 65_536, 65_500, 65_500}, {1000, 65_536, 65_000, 65_000}, {9000, 65_536, 63_000, 63_000},
		{100, 65_600, 65_500, 65_500}, {1000, 66_000, 65_000, 65_000}, {9000, 72_000, 63_000, 63_000},
		// Those of which MaxTso is some times as much.
		{128, 65_536, 65_408, 65_536}, {1024, 65_536, 64_512, 65_536}, {4096, 65_536, 61_440, 65_536}, {8192, 65_536, 57_344, 65_536},
		{128, 65_664, 65_536, 65_536}, {1024, 66_560, 65_536, 65_536}, {8192, 73_728, 65_536, 65_536},
		// More than 32 bits hold.
		{1000, 1 << 32, 65_000, 65_000}, {1000, 1<<32 + 3000, 65_000, 65_000}, {1000, math.MaxUint64 / part, 65_000, 65_000},
	} {
		size(t, (row.bytes-1)*part, row.mss, row.below)
		size(t, row.bytes*part-1, row.mss, row.below)
		size(t, row.bytes*part, row.mss, row.at)
		size(t, row.bytes*part+1, row.mss, row.at)
		size(t, row.bytes*part+part-1, row.mss, row.at)
	}
}

func TestLeast(t *testing.T) {
	for _, rate := range []uint64{0, 1, 2, 1023, 1024, 1025, 2047, 2048, 100*part - 1, 100 * part, 100*part + 1, 200 * part} {
		size(t, rate, 100, 200)
		size(t, rate, 1000, 2000)
		size(t, rate, 9000, 18_000)
	}
}

func TestGreatest(t *testing.T) {
	for _, rate := range []uint64{1 << 31, 1<<32 - 1, 1 << 32, 1<<62 - 1, 1 << 62, 1<<63 - 1, 1 << 63, 1<<63 + 1, unlimited - part, unlimited - 1, unlimited} {
		size(t, rate, 100, 65_500)
		size(t, rate, 1000, 65_000)
		size(t, rate, 9000, 63_000)
	}
}
