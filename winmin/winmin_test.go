package winmin_test

import (
	"math"
	"testing"

	"canter/winmin"
)

// next: a short rule that tells numbers of all sizes, one from the other.
func next(x uint64) uint64 {
	x ^= x << 13
	x ^= x >> 7
	return x ^ x<<17
}

// most: what all values are in the beginning.
const most = math.MaxUint64

// step: Update(t, v), and what it is to answer.
type step struct{ t, v, want uint64 }

func update(t *testing.T, m *winmin.Min, s step) {
	t.Helper()
	if v := m.Update(s.t, s.v); v != s.want {
		t.Errorf("P9.1: Update(%d, %d): %d; want %d", s.t, s.v, v, s.want)
	}
	best(t, m, s.want)
}

// best: whether Best tells that, and turns nothing: a second one tells it too.
func best(t *testing.T, m *winmin.Min, want uint64) {
	t.Helper()
	for range 2 {
		if v := m.Best(); v != want {
			t.Errorf("P9.1: Best: %d; want %d", v, want)
		}
	}
}

type row struct {
	name   string
	window uint64
	steps  []step
}

// rows: each row with a new one, step by step.
func rows(t *testing.T, l []row) {
	t.Helper()
	for _, r := range l {
		t.Run(r.name, func(t *testing.T) {
			m := winmin.New(r.window)
			best(t, m, most)
			for k, s := range r.steps {
				update(t, m, s)
				if t.Failed() {
					t.Fatalf("the step %d of a window of %d", k, r.window)
				}
			}
		})
	}
}

// behind: those of first, and then others.
func behind(first []step, others ...step) []step {
	return append(append([]step{}, first...), others...)
}

// Beginnings with a window of 100: all three at 10 with 50; then the second and the third one at 40 with 70; then the third one at 70 with 80.
var (
	one   = []step{{10, 50, 50}}
	two   = []step{{10, 50, 50}, {40, 70, 50}}
	three = []step{{10, 50, 50}, {40, 70, 50}, {70, 80, 50}}
)

func TestExample(t *testing.T) {
	rows(t, []row{{"example 1", 10, []step{{1, 5, 5}, {2, 7, 5}}}})
}

// TestFirst: v is at most the first one's value: all three are t, v, so that the first one is of late till its own time and window.
func TestFirst(t *testing.T) {
	rows(t, []row{
		{"below", 100, behind(one, step{20, 49, 49}, step{111, 100, 49}, step{120, 100, 49}, step{121, 100, 100})},
		{"at", 100, behind(one, step{20, 50, 50}, step{111, 100, 50}, step{120, 100, 50}, step{121, 100, 100})},
		{"above", 100, behind(one, step{20, 51, 50}, step{110, 100, 50}, step{111, 100, 100})},
		{"of three, below", 100, behind(three, step{80, 49, 49}, step{180, 100, 49}, step{181, 100, 100})},
		{"of three, at", 100, behind(three, step{80, 50, 50}, step{180, 100, 50}, step{181, 100, 100})},
		{"of three, above", 100, behind(three, step{80, 51, 50}, step{111, 100, 51})},
		{"of three: the others are not what they were", 100, behind(three, step{80, 40, 40}, step{106, 91, 40}, step{180, 100, 40}, step{181, 100, 91})},
	})
}

// TestSilence: t is more than window behind the third one's time: all three are t, v.
func TestSilence(t *testing.T) {
	rows(t, []row{
		{"below", 100, behind(one, step{109, 93, 50})},
		{"at", 100, behind(one, step{110, 93, 50}, step{111, 100, 93})},
		{"above", 100, behind(one, step{111, 93, 93}, step{211, 100, 93}, step{212, 100, 100})},
		{"of two, at", 100, behind(two, step{140, 93, 70})},
		{"of two, above", 100, behind(two, step{141, 93, 93})},
		{"of three, below", 100, behind(three, step{169, 93, 80})},
		{"of three, at", 100, behind(three, step{170, 93, 80}, step{171, 100, 93})},
		{"of three, above", 100, behind(three, step{171, 93, 93}, step{271, 100, 93}, step{272, 100, 100})},
		{"from the beginning", 100, []step{{100, 100, 100}, {500, 97, 97}, {600, 98, 97}, {601, 99, 98}}},
	})
}

// TestSecond: v is at most the second one's value: the second and the third one are t, v.
func TestSecond(t *testing.T) {
	rows(t, []row{
		{"below", 100, behind(two, step{60, 69, 50}, step{111, 100, 69}, step{160, 100, 69}, step{161, 100, 100})},
		{"at", 100, behind(two, step{60, 70, 50}, step{111, 100, 70}, step{160, 100, 70}, step{161, 100, 100})},
		{"above", 100, behind(two, step{60, 71, 50}, step{111, 100, 70}, step{140, 100, 70}, step{141, 100, 100})},
		{"just above the first one", 100, behind(two, step{60, 51, 50}, step{111, 100, 51}, step{160, 100, 51}, step{161, 100, 100})},
		{"of three, below", 100, behind(three, step{80, 69, 50}, step{111, 100, 69}, step{180, 100, 69}, step{181, 100, 100})},
		{"of three, at", 100, behind(three, step{80, 70, 50}, step{111, 100, 70}, step{180, 100, 70}, step{181, 100, 100})},
		{"of three, above", 100, behind(three, step{80, 71, 50}, step{111, 100, 70}, step{140, 100, 70}, step{141, 100, 71}, step{180, 100, 71}, step{181, 100, 100})},
		{"of three, and the first one too old", 100, behind(three, step{111, 70, 70}, step{211, 100, 70}, step{212, 100, 100})},
	})
}

// TestThird: v is at most the third one's value: the third one is t, v.
func TestThird(t *testing.T) {
	rows(t, []row{
		{"below", 100, behind(three, step{90, 79, 50}, step{141, 100, 79}, step{190, 100, 79}, step{191, 100, 100})},
		{"at", 100, behind(three, step{90, 80, 50}, step{141, 100, 80}, step{190, 100, 80}, step{191, 100, 100})},
		{"above", 100, behind(three, step{90, 81, 50}, step{141, 100, 80}, step{170, 100, 80}, step{171, 100, 100})},
		{"just above the second one", 100, behind(three, step{90, 71, 50}, step{111, 100, 70}, step{141, 100, 71}, step{190, 100, 71}, step{191, 100, 100})},
		{"and the first one too old", 100, behind(three, step{111, 75, 70}, step{141, 100, 75}, step{211, 100, 75}, step{212, 100, 100})},
	})
}

// TestOld: d is above window, once, and once more likewise: those behind it take over, and t, v is the third one.
func TestOld(t *testing.T) {
	rows(t, []row{
		{"once, below", 100, behind(three, step{109, 93, 50}, step{110, 93, 50})},
		{"once, at", 100, behind(three, step{110, 93, 50}, step{111, 94, 70}, step{141, 95, 80}, step{170, 96, 80}, step{171, 100, 94})},
		{"once, above", 100, behind(three, step{111, 93, 70}, step{141, 95, 80}, step{170, 95, 80}, step{171, 96, 93}, step{211, 97, 93}, step{212, 98, 95})},
		{"once: t, v is the third one", 100, behind(three, step{111, 93, 70}, step{171, 100, 93}, step{211, 100, 93}, step{212, 100, 100})},
		{"once, the second one just at window", 100, behind(three, step{140, 93, 70}, step{141, 94, 80})},
		{"once more, above", 100, behind(three, step{141, 93, 80}, step{170, 94, 80}, step{171, 95, 93}, step{241, 96, 93}, step{242, 97, 94})},
		{"once more: t, v is the second and the third one", 100, behind(three, step{141, 93, 80}, step{171, 100, 93}, step{241, 100, 93}, step{242, 100, 100})},
		{"once more, the third one just at window", 100, behind(three, step{170, 93, 80}, step{171, 94, 93})},
		{"no quarter and no half of it counts then", 100, behind(two, step{111, 93, 70}, step{140, 94, 70}, step{141, 95, 94}, step{240, 100, 94}, step{241, 100, 100})},
	})
}

// TestQuarter: the second one's time is the first one's, and d is above a quarter of window: the second and the third one are t, v.
func TestQuarter(t *testing.T) {
	rows(t, []row{
		{"below", 100, behind(one, step{34, 70, 50}, step{110, 100, 50}, step{111, 100, 100})},
		{"at", 100, behind(one, step{35, 70, 50}, step{110, 100, 50}, step{111, 100, 100})},
		{"above", 100, behind(one, step{36, 70, 50}, step{110, 100, 50}, step{111, 100, 70}, step{136, 100, 70}, step{137, 100, 100})},
		{"the third one too", 100, behind(one, step{36, 70, 50}, step{136, 100, 70})},
		{"the third one too, and late", 100, behind(one, step{36, 70, 50}, step{137, 100, 100})},
		{"above half", 100, behind(one, step{90, 70, 50}, step{111, 100, 70}, step{190, 100, 70}, step{191, 100, 100})},
		{"not with a time of its own", 100, behind(two, step{45, 80, 50}, step{111, 100, 70}, step{140, 100, 70}, step{141, 100, 100})},
		{"not, since it was at most the second one", 100, behind(one, step{36, 70, 50}, step{37, 70, 50}, step{45, 80, 50}, step{111, 100, 70}, step{137, 100, 70}, step{138, 100, 100})},
	})
}

// TestHalf: the third one's time is the second one's, and d is above half of window: the third one is t, v.
func TestHalf(t *testing.T) {
	rows(t, []row{
		{"below", 100, behind(two, step{59, 80, 50}, step{111, 100, 70}, step{140, 100, 70}, step{141, 100, 100})},
		{"at", 100, behind(two, step{60, 80, 50}, step{111, 100, 70}, step{140, 100, 70}, step{141, 100, 100})},
		{"above", 100, behind(two, step{61, 80, 50}, step{111, 100, 70}, step{140, 100, 70}, step{141, 100, 80}, step{161, 100, 80}, step{162, 100, 100})},
		{"the second one stays", 100, behind(two, step{61, 80, 50}, step{111, 100, 70}, step{141, 100, 80})},
		{"not with a time of its own", 100, behind(three, step{80, 90, 50}, step{141, 100, 80}, step{170, 100, 80}, step{171, 100, 100})},
		{"d is from the first one on", 100, behind(one, step{60, 70, 50}, step{61, 80, 50}, step{111, 100, 70}, step{160, 100, 70}, step{161, 100, 80}, step{162, 100, 100})},
	})
}

// TestWindows: a quarter and a half of windows, rounded down, each at its edge; and window itself.
func TestWindows(t *testing.T) {
	for _, w := range []struct{ window, quarter, half uint64 }{
		{0, 0, 0}, {1, 0, 0}, {2, 0, 1}, {3, 0, 1}, {4, 1, 2}, {5, 1, 2}, {6, 1, 3}, {7, 1, 3}, {8, 2, 4}, {9, 2, 4},
		{10, 2, 5}, {11, 2, 5}, {13, 3, 6}, {1001, 250, 500}, {1<<62 + 1, 1 << 60, 1 << 61}, {1<<63 - 1, 1<<61 - 1, 1<<62 - 1},
	} {
		const at = 1000
		end := at + w.window
		run := func(steps ...step) {
			t.Helper()
			rows(t, []row{{"window", w.window, behind([]step{{at, 50, 50}}, steps...)}})
		}
		run(step{end, 100, 50}, step{end + 1, 100, 100})
		if w.quarter < w.window {
			run(step{at + w.quarter, 70, 50}, step{end, 100, 50}, step{end + 1, 100, 100})
			run(step{at + w.quarter + 1, 70, 50}, step{end, 100, 50}, step{end + 1, 100, 70}, step{end + w.quarter + 1, 100, 70}, step{end + w.quarter + 2, 100, 100})
		}
		if w.half > w.quarter {
			second := at + w.quarter + 1
			run(step{second, 70, 50}, step{at + w.half, 80, 50}, step{end + 1, 90, 70}, step{second + w.window, 90, 70}, step{second + w.window + 1, 91, 90})
			run(step{second, 70, 50}, step{at + w.half + 1, 80, 50}, step{end + 1, 90, 70}, step{second + w.window, 90, 70}, step{second + w.window + 1, 91, 80})
		}
	}
}

// TestBack: a t that is less than one that came before counts as the greatest time so far.
func TestBack(t *testing.T) {
	rows(t, []row{
		{"a first one", 100, []step{{500, 50, 50}, {0, 50, 50}, {600, 100, 50}, {601, 100, 100}}},
		{"less", 100, []step{{500, 50, 50}, {20, 40, 40}, {600, 100, 40}, {601, 100, 100}}},
		{"a second one", 100, behind(two, step{0, 69, 50}, step{111, 100, 69}, step{140, 100, 69}, step{141, 100, 100})},
		{"a third one", 100, behind(three, step{69, 79, 50}, step{141, 100, 79}, step{170, 100, 79}, step{171, 100, 100})},
		{"by which nothing was turned", 100, behind(one, step{35, 100, 50}, step{20, 70, 50}, step{36, 80, 50}, step{111, 100, 80})},
		{"above a quarter", 100, behind(one, step{36, 80, 50}, step{0, 60, 50}, step{111, 100, 60}, step{136, 100, 60}, step{137, 100, 100})},
		{"too old", 100, behind(three, step{111, 91, 70}, step{0, 92, 70}, step{141, 100, 80}, step{171, 100, 91})},
		{"behind a silence", 100, behind(three, step{1000, 91, 91}, step{70, 95, 91}, step{1100, 96, 91}, step{1101, 97, 96})},
		{"again and again", 100, []step{{500, 50, 50}, {400, 60, 50}, {450, 70, 50}, {499, 80, 50}, {600, 90, 50}, {0, 91, 50}, {601, 92, 90}}},
	})
}

// TestEqual: equal values, and equal times.
func TestEqual(t *testing.T) {
	rows(t, []row{
		{"values", 100, []step{{10, 95, 95}, {110, 95, 95}, {210, 95, 95}, {300, 96, 95}, {310, 97, 95}, {311, 98, 96}}},
		{"values of 2^64 - 1", 100, []step{{10, most, most}, {20, most, most}, {500, most, most}, {500, most, most}, {501, most - 1, most - 1}, {501, most, most - 1}}},
		{"times, values rising", 100, []step{{10, 95, 95}, {10, 96, 95}, {10, 97, 95}, {110, 98, 95}, {111, 99, 98}}},
		{"times, values falling", 100, []step{{10, 97, 97}, {10, 96, 96}, {10, 95, 95}, {110, 98, 95}, {111, 99, 98}}},
		{"times, of a second one", 100, behind(two, step{40, 80, 50}, step{40, 65, 50}, step{40, 90, 50}, step{111, 100, 65}, step{141, 100, 100})},
		{"times, of a third one", 100, behind(three, step{70, 90, 50}, step{70, 75, 50}, step{70, 95, 50}, step{141, 100, 75}, step{171, 100, 100})},
		{"both", 100, behind(three, step{70, 80, 50}, step{70, 80, 50}, step{111, 100, 70}, step{141, 100, 80}, step{171, 100, 100})},
	})
}

// TestGreatest: 0 and the greatest number as t, v and window.
func TestGreatest(t *testing.T) {
	rows(t, []row{
		{"v of 0", 100, []step{{10, 0, 0}, {20, 1, 0}, {20, 0, 0}, {120, most, 0}, {121, most, most}}},
		{"v of 2^64 - 1", 100, []step{{10, most, most}, {11, most - 1, most - 1}, {12, most, most - 1}, {111, most, most - 1}, {112, most, most}}},
		{"v falls all the way", 100, []step{{10, most, most}, {11, 0, 0}, {12, most, 0}}},
		{"t", 100, []step{{most, 9, 9}, {0, 10, 9}, {most, 11, 9}, {most - 1, 8, 8}, {most, 20, 8}}},
		{"t, at window", 100, []step{{most - 100, 9, 9}, {most, 10, 9}}},
		{"t, above window", 100, []step{{most - 101, 9, 9}, {most, 10, 10}}},
		{"t, above a quarter", 100, []step{{most - 101, 9, 9}, {most - 75, 10, 9}, {most, 11, 10}}},
		{"t, at a quarter", 100, []step{{most - 101, 9, 9}, {most - 76, 10, 9}, {most, 11, 11}}},
		{"t, as far as it goes", 100, []step{{0, 9, 9}, {most, 10, 10}, {0, 11, 10}}},
		{"window", most, []step{{0, 9, 9}, {1, 10, 9}, {most / 4, 10, 9}, {most / 2, 11, 9}, {most - 1, 12, 9}, {most, 13, 9}, {0, 14, 9}, {0, 8, 8}}},
		{"window, below it", most - 1, []step{{0, 9, 9}, {most - 1, 10, 9}, {most, 13, 10}}},
		{"window, a silence", most - 1, []step{{0, 9, 9}, {most, 13, 13}}},
		{"window, a quarter of it", most - 1, []step{{0, 9, 9}, {most / 4, 10, 9}, {most, 13, 13}}},
		{"window, above a quarter of it", most - 1, []step{{0, 9, 9}, {most/4 + 1, 10, 9}, {most, 13, 10}}},
		{"window of 0", 0, []step{{0, 9, 9}, {0, 10, 9}, {0, 9, 9}, {1, 19, 19}, {1, 20, 19}, {1, 18, 18}, {most, most, most}, {most, most, most}}},
		{"window of 1", 1, []step{{0, 9, 9}, {1, 10, 9}, {2, 11, 10}, {3, 12, 11}, {5, 13, 13}, {5, 12, 12}}},
		{"all of them", most, []step{{most, most, most}, {most, 0, 0}, {0, most, 0}, {0, 0, 0}}},
		{"none of them", 0, []step{{0, 0, 0}, {0, 0, 0}, {1, 0, 0}}},
	})
}

// TestBeginning: ahead of any Update, all three are at 0 with 2^64 - 1: the first v counts, whatever it is.
func TestBeginning(t *testing.T) {
	for _, window := range []uint64{0, 1, 100, most} {
		best(t, winmin.New(window), most)
		for _, v := range []uint64{0, 1, most} {
			for _, at := range []uint64{0, 1, 1000, most} {
				m := winmin.New(window)
				update(t, m, step{at, v, v})
			}
		}
	}
	m := new(winmin.Min) // R1: one that New did not make
	m.Best()
	update(t, m, step{5, 3, 3})
	m.Reset(6, 7)
	best(t, m, 7)
}

// TestReset: all three are t, v, whatever they were; times that came stay so.
func TestReset(t *testing.T) {
	for _, r := range []struct {
		name  string
		first []step
		t, v  uint64
		then  []step
	}{
		{"in the beginning", nil, 10, 50, []step{{35, 70, 50}, {110, 100, 50}, {111, 100, 100}}},
		{"in the beginning, above a quarter", nil, 10, 50, []step{{36, 70, 50}, {111, 100, 70}, {137, 100, 100}}},
		{"to more", three, 80, 93, []step{{105, 94, 93}, {180, 95, 93}, {181, 96, 95}}},
		{"to more, above a quarter", three, 80, 93, []step{{106, 94, 93}, {180, 95, 93}, {181, 96, 94}}},
		{"to the same", three, 80, 50, []step{{180, 95, 50}, {181, 96, 95}}},
		{"to less", three, 80, 30, []step{{180, 95, 30}, {181, 96, 95}}},
		{"to 2^64 - 1", three, 80, most, []step{{90, most, most}, {91, most - 1, most - 1}}},
		{"to 0", three, 80, 0, []step{{180, 1, 0}, {181, 2, 1}}},
		{"to later", three, 300, 93, []step{{399, 94, 93}, {400, 95, 93}, {401, 96, 94}}},
		{"to the greatest time", three, most, 93, []step{{90, 94, 93}, {most, 95, 93}, {80, 92, 92}}},
		// The time of it counts as one that came before.
		{"to later, then back", three, 300, 93, []step{{90, 93, 93}, {400, 94, 93}, {401, 95, 94}}},
		// It is t, v, not a later one; what comes then is not ahead of what came.
		{"to earlier", three, 65, 93, []step{{0, 94, 93}, {165, 95, 93}, {166, 96, 95}}},
		{"to earlier, at window", []step{{165, 50, 50}}, 65, 93, []step{{0, 94, 93}, {166, 95, 94}, {265, 96, 94}, {266, 97, 96}}},
		{"to earlier, above window", []step{{166, 50, 50}}, 65, 93, []step{{0, 94, 94}, {266, 95, 94}, {267, 96, 95}}},
		{"at 0, long behind", []step{{1000, 50, 50}}, 0, 93, []step{{5, 98, 98}, {1100, 99, 98}, {1101, 100, 99}}},
		{"as in the beginning", nil, 0, most, []step{{5, 98, 98}}},
	} {
		t.Run(r.name, func(t *testing.T) {
			m := winmin.New(100)
			for _, s := range r.first {
				update(t, m, s)
			}
			m.Reset(r.t, r.v)
			best(t, m, r.v)
			for _, s := range r.then {
				update(t, m, s)
			}
		})
	}
}

// TestApart: R2: what is done with one is not to be seen in another.
func TestApart(t *testing.T) {
	a, b := winmin.New(10), winmin.New(20)
	update(t, a, step{5, 9, 9})
	best(t, b, most)
	b.Reset(100, 4)
	best(t, a, 9)
	update(t, a, step{15, 13, 9})
	update(t, b, step{0, 6, 4})
	update(t, b, step{120, 7, 4})
	update(t, a, step{16, 14, 13})
	best(t, winmin.New(10), most)
}

func TestNil(t *testing.T) {
	var none *winmin.Min
	for _, at := range []uint64{0, 1, most} {
		for _, v := range []uint64{0, 5, most} {
			update(t, none, step{at, v, most})
			none.Reset(at, v)
			best(t, none, most)
		}
	}
}
