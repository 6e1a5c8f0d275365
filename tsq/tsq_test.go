package tsq_test

import (
	"math"
	"testing"

	"canter/api"
	"canter/tsq"
)

// The numbers that the document names stand here by hand, so that a test does not lean on what it tests.
const (
	part      = 1_024
	unlimited = math.MaxUint64
	maxTso    = 65_536
)

func TestNumbers(t *testing.T) {
	if api.Unlimited != uint64(unlimited) || api.MaxTso != maxTso {
		t.Errorf("P23.1: Unlimited %d, MaxTso %d", uint64(api.Unlimited), api.MaxTso)
	}
}

func limit(t *testing.T, rate uint64, tso, most int, want uint64) {
	t.Helper()
	if n := tsq.Limit(rate, tso, most); n != want {
		t.Errorf("P23.1: Limit(%d, %d, %d): %d; want %d", rate, tso, most, n, want)
	}
}

func TestExample(t *testing.T) {
	limit(t, 0, 2000, 5000, 4000)
}

// TestEach: each of the three is told where it should be, and where two or all of them are the same.
func TestEach(t *testing.T) {
	for _, row := range []struct {
		bytes     uint64 // that the rate has in that time
		tso, most int
		want      uint64
	}{
		// Twice tso: above both, above the lesser one alone.
		{10, 50, 20, 100}, {20, 50, 10, 100}, {10, 50, 1000, 100}, {1000, 50, 10, 100}, {10, 50, 10, 100}, {0, 50, 0, 100},
		{99, 50, 1000, 100}, {1000, 50, 99, 100}, {101, 50, 99, 100}, {99, 50, 101, 100},
		// What the rate has: less than most, more than twice tso.
		{101, 50, 102, 101}, {150, 50, 1000, 150}, {999, 50, 1000, 999}, {150, 0, 1000, 150}, {1, 0, 1000, 1},
		// Most: less than what the rate has, more than twice tso.
		{102, 50, 101, 101}, {1000, 50, 150, 150}, {1000, 50, 999, 999}, {1000, 0, 150, 150}, {1000, 0, 1, 1},
		// The same: twice tso and what the rate has; twice tso and most; those two; all.
		{100, 50, 1000, 100}, {100, 50, 10, 100}, {1000, 50, 100, 100}, {10, 50, 100, 100}, {150, 50, 150, 150}, {100, 50, 100, 100}, {0, 0, 0, 0},
		// tso alone, not twice, is below them.
		{60, 50, 70, 100}, {70, 50, 60, 100}, {99, 51, 99, 102}, {75, 50, 75, 100},
		// As sockets have them.
		{10_000, 2000, 1 << 20, 10_000}, {1 << 21, 2000, 1 << 20, 1 << 20}, {100_000, maxTso, 1 << 20, 131_072}, {200_000, maxTso, 1 << 20, 200_000},
	} {
		limit(t, row.bytes*part, row.tso, row.most, row.want)
		limit(t, row.bytes*part+1, row.tso, row.most, row.want)
		limit(t, row.bytes*part+part-1, row.tso, row.most, row.want)
	}
}

// TestRate: one below, at and above what makes a part of it as much as twice tso, or as most.
func TestRate(t *testing.T) {
	for _, row := range []struct {
		rate      uint64
		tso, most int
		want      uint64
	}{
		// A part is 0 up to 1,023, and 1 from there on.
		{0, 0, 100, 0}, {1, 0, 100, 0}, {1022, 0, 100, 0}, {1023, 0, 100, 0}, {1024, 0, 100, 1}, {1025, 0, 100, 1}, {2047, 0, 100, 1}, {2048, 0, 100, 2}, {2049, 0, 100, 2},
		{0, 1, 100, 2}, {1, 1, 100, 2}, {1023, 1, 100, 2}, {1024, 1, 100, 2}, {2047, 1, 100, 2}, {2048, 1, 100, 2}, {3071, 1, 100, 2}, {3072, 1, 100, 3}, {3073, 1, 100, 3},
		// Twice 1500.
		{1024*2999 - 1, 1500, 9000, 3000}, {1024 * 2999, 1500, 9000, 3000}, {1024*3000 - 1, 1500, 9000, 3000}, {1024 * 3000, 1500, 9000, 3000}, {1024*3000 + 1, 1500, 9000, 3000},
		{1024*3001 - 1, 1500, 9000, 3000}, {1024 * 3001, 1500, 9000, 3001}, {1024*3001 + 1, 1500, 9000, 3001},
		// Most of 9000.
		{1024 * 8999, 1500, 9000, 8999}, {1024*9000 - 1, 1500, 9000, 8999}, {1024 * 9000, 1500, 9000, 9000}, {1024*9000 + 1, 1500, 9000, 9000}, {1024*9001 - 1, 1500, 9000, 9000},
		{1024 * 9001, 1500, 9000, 9000}, {1024*9001 + 1, 1500, 9000, 9000}, {1 << 62, 1500, 9000, 9000}, {unlimited, 1500, 9000, 9000},
		// A part of the greatest rates.
		{unlimited, 0, math.MaxInt, 1<<54 - 1}, {unlimited - 1023, 0, math.MaxInt, 1<<54 - 1}, {unlimited - 1024, 0, math.MaxInt, 1<<54 - 2}, {unlimited - 1, 0, math.MaxInt, 1<<54 - 1},
		{1 << 63, 0, math.MaxInt, 1 << 53}, {1<<63 - 1, 0, math.MaxInt, 1<<53 - 1}, {1 << 42, 0, math.MaxInt, 1 << 32}, {1<<42 + 5*1024, 0, 1 << 33, 1<<32 + 5},
		{unlimited, 0, 1<<54 - 2, 1<<54 - 2}, {unlimited, 0, 1<<54 - 1, 1<<54 - 1}, {unlimited, 0, 1 << 54, 1<<54 - 1},
		{unlimited, 1<<53 - 1, math.MaxInt, 1<<54 - 1}, {unlimited, 1 << 53, math.MaxInt, 1 << 54},
	} {
		limit(t, row.rate, row.tso, row.most, row.want)
	}
}

// TestLess: tso and most count as 0, if they are less, beside whatever the other one is.
func TestLess(t *testing.T) {
	for _, less := range []int{math.MinInt, math.MinInt + 1, -1 << 62, -1 << 32, -1 << 31, -5000, -1024, -2, -1, 0} {
		for _, row := range []struct {
			other int
			// With less as tso and other as most; the other way round.
			rate, most, tso uint64
		}{
			{0, 5000 * part, 0, 0}, {1, 5000 * part, 1, 2}, {2, 5000 * part, 2, 4}, {100, 5000 * part, 100, 200}, {4999, 5000 * part, 4999, 9998},
			{5000, 5000 * part, 5000, 10_000}, {5001, 5000 * part, 5000, 10_002}, {math.MaxInt, 5000 * part, 5000, unlimited - 1},
			{0, 0, 0, 0}, {1, 0, 0, 2}, {1, 1023, 0, 2}, {1, 1024, 1, 2}, {math.MaxInt, 0, 0, unlimited - 1},
			{0, unlimited, 0, 0}, {1, unlimited, 1, 2}, {100, unlimited, 100, 200}, {math.MaxInt, unlimited, 1<<54 - 1, unlimited - 1},
		} {
			limit(t, row.rate, less, row.other, row.most)
			limit(t, row.rate, row.other, less, row.tso)
		}
		for _, both := range []int{math.MinInt, -7, -1, 0} {
			limit(t, 0, less, both, 0)
			limit(t, 5000*part, less, both, 0)
			limit(t, unlimited, less, both, 0)
		}
	}
}

// TestGreat: twice the greatest int is told, and does not go round.
func TestGreat(t *testing.T) {
	for _, rate := range []uint64{0, 1, 1023, 1024, 1 << 62, 1 << 63, unlimited - 1, unlimited} {
		for _, most := range []int{math.MinInt, -1, 0, 1, 5000, 1 << 62, math.MaxInt - 1, math.MaxInt} {
			limit(t, rate, math.MaxInt, most, 18_446_744_073_709_551_614)
			limit(t, rate, math.MaxInt-1, most, 18_446_744_073_709_551_612)
			limit(t, rate, 1<<62, most, 1<<63)
			limit(t, rate, 1<<62+1, most, 1<<63+2)
			limit(t, rate, 1<<62-1, most, 1<<63-2)
		}
	}
}

func TestMay(t *testing.T) {
	for _, row := range []struct {
		out, limit uint64
		want       bool
	}{
		{0, 0, false}, {1, 0, false}, {1 << 63, 0, false}, {unlimited, 0, false},
		{0, 1, true}, {1, 1, false}, {2, 1, false}, {unlimited, 1, false},
		{0, 4000, true}, {1, 4000, true}, {3998, 4000, true}, {3999, 4000, true}, {4000, 4000, false}, {4001, 4000, false}, {8000, 4000, false},
		{1<<32 - 1, 1 << 32, true}, {1 << 32, 1 << 32, false}, {1<<32 + 1, 1 << 32, false}, {1 << 32, 5, false}, {5, 1 << 32, true},
		{1<<63 - 1, 1 << 63, true}, {1 << 63, 1 << 63, false}, {1<<63 + 1, 1 << 63, false}, {1 << 63, 1<<63 - 1, false}, {1 << 63, 1, false}, {1, 1 << 63, true},
		{0, unlimited, true}, {1 << 63, unlimited, true}, {unlimited - 1, unlimited, true}, {unlimited, unlimited, false}, {unlimited, unlimited - 1, false}, {unlimited - 1, unlimited - 1, false},
	} {
		if may := tsq.May(row.out, row.limit); may != row.want {
			t.Errorf("P23.1: May(%d, %d): %t; want %t", row.out, row.limit, may, row.want)
		}
	}
}

// TestAgain: an answer hangs on nothing but what was handed in.
func TestAgain(t *testing.T) {
	limit(t, 5000*part, 1000, 9000, 5000)
	limit(t, unlimited, math.MaxInt, math.MaxInt, unlimited-1)
	limit(t, 0, math.MinInt, math.MinInt, 0)
	limit(t, 5000*part, 1000, 9000, 5000)
}
