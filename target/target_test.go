package target_test

import (
	"math"
	"testing"

	"canter/api"
	"canter/target"
)

const (
	most = math.MaxUint64
	half = 1 << 63
)

func bdp(t *testing.T, bw, rtt, gain, want uint64) {
	t.Helper()
	if got := target.Bdp(bw, rtt, gain); got != want {
		t.Errorf("P12.1: Bdp(%d, %d, %d): %d; want %d", bw, rtt, gain, got, want)
	}
}

func window(t *testing.T, bw, rtt, gain, tso, mss, want uint64) {
	t.Helper()
	if got := target.Window(bw, rtt, gain, tso, mss); got != want {
		t.Errorf("P12.1: Window(%d, %d, %d, %d, %d): %d; want %d", bw, rtt, gain, tso, mss, got, want)
	}
}

func rate(t *testing.T, bw, gain, want uint64) {
	t.Helper()
	if got := target.Rate(bw, gain); got != want {
		t.Errorf("P12.1: Rate(%d, %d): %d; want %d", bw, gain, got, want)
	}
}

func TestExample(t *testing.T) {
	rate(t, 100, api.Unit, 100)
}

// TestBdpNothing: where one of the three is 0, nothing is under way.
func TestBdpNothing(t *testing.T) {
	for _, a := range []uint64{0, 1, 256, api.Second, half, most} {
		for _, b := range []uint64{0, 1, 256, api.Second, half, most} {
			bdp(t, 0, a, b, 0)
			bdp(t, a, 0, b, 0)
			bdp(t, a, b, 0, 0)
		}
	}
}

// TestBdpEnds: each of the three 1 and the greatest number.
func TestBdpEnds(t *testing.T) {
	// 2^64 - 1 is 18446744073 times Second and 709551615: what is left over is lost ahead of the gain.
	const inner = most / api.Second
	for _, r := range []struct{ bw, rtt, gain, want uint64 }{
		{1, 1, 1, 0},
		{1, 1, most, 0},
		{1, most, 1, inner / 256},
		{most, 1, 1, inner / 256},
		{1, most, api.Unit, inner},
		{most, 1, api.Unit, inner},
		{1, most, most, most},
		{most, 1, most, most},
		{most, most, 1, most / 256},
		{most, most, api.Unit - 1, most - most/256 - 1},
		{most, most, api.Unit, most},
		{most, most, most, most},
	} {
		bdp(t, r.bw, r.rtt, r.gain, r.want)
	}
}

// TestBdpRounded: each of the two quotients comes out even, or is rounded down by itself.
func TestBdpRounded(t *testing.T) {
	for _, r := range []struct{ bw, rtt, gain, want uint64 }{
		{1000, api.Second, api.Unit, 1000},
		{1000, api.Second, 2 * api.Unit, 2000},
		{1000, api.Second, api.Unit / 2, 500},
		{1_000_000, api.Second / 1000, api.Unit, 1000},
		{12_500_000, api.Second / 25, api.Unit, 500_000},
		{12_500_000, api.Second / 25, api.UpGain, 625_000},
		{12_500_000, api.Second / 25, api.DownGain, 375_000},
		{12_500_000, api.Second / 25, api.HighGain, 1_443_359},
		{12_500_000, api.Second / 25, api.DrainGain, 171_875},

		// The inner one: one below what is even, even, one above it.
		{1, api.Second - 1, api.Unit, 0},
		{1, api.Second, api.Unit, 1},
		{1, api.Second + 1, api.Unit, 1},
		{api.Second - 1, 1, api.Unit, 0},
		{api.Second, 1, api.Unit, 1},
		{1, 2*api.Second - 1, api.Unit, 1},
		{1, 2 * api.Second, api.Unit, 2},
		// Rounded down ahead of the gain, and not behind it.
		{1, 2*api.Second - 1, 2 * api.Unit, 2},
		{1, api.Second - 1, most, 0},
		{1, api.Second/2 + 1, 4 * api.Unit, 0},
		{3, api.Second / 2, 2 * api.Unit, 2},

		// The outer one.
		{255, api.Second, 1, 0},
		{256, api.Second, 1, 1},
		{257, api.Second, 1, 1},
		{1, api.Second, 255, 0},
		{1, api.Second, 256, 1},
		{1, api.Second, 511, 1},
		{1, api.Second, 512, 2},
		{100, api.Second, api.HighGain, 288},

		// Both.
		{999, api.Second + 1, 300, 1170},
		{3, api.Second / 2, 300, 1},
		{7, api.Second - 1, 300, 7},
		{7, api.Second, 300, 8},
	} {
		bdp(t, r.bw, r.rtt, r.gain, r.want)
	}
}

// TestBdpCut: an inner product that is cut to the greatest number ahead of the gain, and an outer one.
func TestBdpCut(t *testing.T) {
	for _, r := range []struct{ bw, rtt, gain, want uint64 }{
		// The inner one is the greatest number and not cut, one below it, and cut.
		{most, api.Second, api.Unit, most},
		{most - 1, api.Second, api.Unit, most - 1},
		{most, api.Second + 1, api.Unit, most},
		{most, 2 * api.Second, api.Unit, most},
		{half, 2*api.Second - 1, api.Unit, most - half/api.Second},
		{half, 2 * api.Second, api.Unit, most},
		// What was cut, by less than Unit: no more than that part of the greatest number.
		{most, 2 * api.Second, api.Unit / 2, half - 1},
		{most, most, api.Unit / 2, half - 1},
		{half, 2 * api.Second, api.Unit / 2, half - 1},
		{most, most, 1, 1<<56 - 1},
		{most, most, 0, 0},
		// The outer one: the inner one is not cut.
		{half, api.Second, 2*api.Unit - 1, most - 1<<55 + 1},
		{half, api.Second, 2 * api.Unit, most},
		{half - 1, api.Second, 2 * api.Unit, most - 1},
		{half + 1, api.Second, 2 * api.Unit, most},
		{most, api.Second, api.Unit + 1, most},
		{most, api.Second, 2 * api.Unit, most},
		{1 << 56, api.Second, half / (1 << 48), half},
		{1 << 56, api.Second, 1<<16 - 1, most - 1<<48 + 1},
		{1 << 56, api.Second, 1 << 16, most},
		{256, api.Second, most, most},
		{255, api.Second, most, most - 1<<56},
		{257, api.Second, most, most},
		// Both are.
		{most, most, api.Unit + 1, most},
		{most, most, most, most},
	} {
		bdp(t, r.bw, r.rtt, r.gain, r.want)
	}
}

// TestWindowFirst: with rtt 0, whatever bw, gain and tso are.
func TestWindowFirst(t *testing.T) {
	numbers := []uint64{0, 1, 100, 256, 739, 65_536, api.Second, half, most}
	for _, r := range []struct{ mss, want uint64 }{
		{0, 0},
		{1, 10},
		{100, 1000},
		{1460, 14_600},
		{9000, 90_000},
		{most / 10, most - 5},
		{most/10 + 1, most},
		{most / 4, most},
		{half, most},
		{most, most},
	} {
		for _, bw := range numbers {
			for _, gain := range numbers {
				for _, tso := range numbers {
					window(t, bw, 0, gain, tso, r.mss, r.want)
				}
			}
		}
	}
}

// TestWindowLeast: Bdp and three times tso, one below, at, and one above MinSegs times mss, by the one and by the other.
func TestWindowLeast(t *testing.T) {
	for _, r := range []struct{ bw, tso, mss, want uint64 }{
		{399, 0, 100, 400},
		{400, 0, 100, 400},
		{401, 0, 100, 401},
		{99, 100, 100, 400},
		{100, 100, 100, 400},
		{101, 100, 100, 401},
		{0, 133, 100, 400},
		{1, 133, 100, 400},
		{2, 133, 100, 401},
		{0, 134, 100, 402},
		{0, 3, 2, 9},
		{0, 33, 25, 100},
		{0, 34, 25, 102},
		{0, 4, 3, 12},
		{0, 0, 0, 0},
		{1, 0, 0, 1},
		{0, 1, 0, 3},
		{0, 0, 1, 4},
		{3, 0, 1, 4},
		{4, 0, 1, 4},
		{5, 0, 1, 5},
		{35_999, 0, 9000, 36_000},
		{36_000, 0, 9000, 36_000},
		{36_001, 0, 9000, 36_001},
		{100_000, 65_536, 1460, 296_608},
		{half - 1, 0, 1 << 61, half},
		{half, 0, 1 << 61, half},
		{half + 1, 0, 1 << 61, half + 1},
	} {
		window(t, r.bw, api.Second, api.Unit, r.tso, r.mss, r.want)
	}
}

// TestWindowPath: with rtt above 0, the least one too, it is Bdp with all three of its numbers that counts.
func TestWindowPath(t *testing.T) {
	for _, r := range []struct{ bw, rtt, gain, tso, mss, want uint64 }{
		{0, 1, 0, 0, 1, 4},
		{0, 1, api.Unit, 0, 100, 400},
		{0, most, most, 0, 100, 400},
		{most, 1, 0, 0, 100, 400},
		{most, 1, api.Unit, 0, 100, most / api.Second},
		{most, 1, api.Unit, 1, 100, most/api.Second + 3},
		{12_500_000, api.Second / 25, api.CwndGain, 65_536, 1460, 1_196_608},
		{12_500_000, api.Second / 25, api.HighGain, 65_536, 1460, 1_639_967},
		{12_500_000, api.Second / 25, api.Unit, 0, 9000, 500_000},
		{12_500_000, api.Second / 25, 0, 0, 9000, 36_000},
		{12_500_000, api.Second / 25, 0, 20_000, 9000, 60_000},
		{999, api.Second + 1, 300, 10, 100, 1200},
	} {
		window(t, r.bw, r.rtt, r.gain, r.tso, r.mss, r.want)
	}
}

// TestWindowCut: three times tso, the sum, and MinSegs times mss: the greatest that is not cut, and what is above it.
func TestWindowCut(t *testing.T) {
	const third, quarter = most / 3, most / 4 // 3 * third is the greatest number
	for _, r := range []struct{ bw, tso, mss, want uint64 }{
		// Three times tso.
		{0, third - 1, 1, most - 3},
		{0, third, 1, most},
		{0, third + 1, 1, most},
		{0, third + 2, 1, most},
		{0, half, 1, most},
		{0, most, 1, most},
		// The sum.
		{2, third - 1, 1, most - 1},
		{3, third - 1, 1, most},
		{4, third - 1, 1, most},
		{1, third, 1, most},
		{most, 0, 1, most},
		{most - 3, 1, 1, most},
		{most - 4, 1, 1, most - 1},
		{most - 2, 1, 1, most},
		{most, 1, 1, most},
		{most, most, 1, most},
		{half, half / 3, 1, most - 1},
		{half, half/3 + 1, 1, most},
		// MinSegs times mss.
		{0, 0, quarter, most - 3},
		{0, 0, quarter + 1, most},
		{0, 0, quarter + 2, most},
		{0, 0, half, most},
		{0, 0, most, most},
		{most - 4, 0, quarter, most - 3},
		{most - 2, 0, quarter, most - 2},
		{most - 2, 0, quarter + 1, most},
		// All of them.
		{most, most, most, most},
	} {
		window(t, r.bw, api.Second, api.Unit, r.tso, r.mss, r.want)
	}
}

// TestRate: by gain 0, below, at and above Unit; even, rounded down, and cut.
func TestRate(t *testing.T) {
	for _, r := range []struct{ bw, gain, want uint64 }{
		{0, 0, 0},
		{0, 1, 0},
		{0, api.Unit, 0},
		{0, most, 0},
		{1, 0, 0},
		{most, 0, 0},

		{1, 1, 0},
		{1, api.Unit - 1, 0},
		{255, 1, 0},
		{256, 1, 1},
		{257, 1, 1},
		{2, api.Unit / 2, 1},
		{3, api.Unit / 2, 1},
		{100, api.Unit - 1, 99},
		{100, api.DrainGain, 34},
		{100, api.DownGain, 75},
		{101, api.DownGain, 75},
		{most, 1, 1<<56 - 1},
		{most, api.Unit / 2, half - 1},
		{most, api.Unit - 1, most - 1<<56},
		{half, api.Unit / 2, half / 2},

		{1, api.Unit, 1},
		{255, api.Unit, 255},
		{half, api.Unit, half},
		{most - 1, api.Unit, most - 1},
		{most, api.Unit, most},

		{1, api.Unit + 1, 1},
		{1, 2*api.Unit - 1, 1},
		{1, 2 * api.Unit, 2},
		{100, api.Unit + 1, 100},
		{256, api.Unit + 1, 257},
		{100, api.UpGain, 125},
		{100, api.HighGain, 288},
		{100, api.CwndGain, 200},
		{half - 1, 2 * api.Unit, most - 1},
		{half, 2*api.Unit - 1, most - 1<<55 + 1},
		{half, 2 * api.Unit, most},
		{most - 1, api.Unit + 1, most},
		{most, api.Unit + 1, most},
		{most, most, most},
		{1, most, 1<<56 - 1},
		{255, most, most - 1<<56},
		{256, most, most},
		{257, most, most},
	} {
		rate(t, r.bw, r.gain, r.want)
	}
}
