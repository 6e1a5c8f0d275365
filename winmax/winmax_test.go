package winmax_test

import (
	"math"
	"testing"

	"canter/winmax"
)

// next: a short rule that tells numbers of all sizes, one from the other.
func next(x uint64) uint64 {
	x ^= x << 13
	x ^= x >> 7
	return x ^ x<<17
}

// step: Update(t, v), and what it is to answer.
type step struct{ t, v, want uint64 }

func update(t *testing.T, m *winmax.Max, s step) {
	t.Helper()
	if v := m.Update(s.t, s.v); v != s.want {
		t.Errorf("P8.1: Update(%d, %d): %d; want %d", s.t, s.v, v, s.want)
	}
	best(t, m, s.want)
}

// best: whether Best tells that, and turns nothing: a second one tells it too.
func best(t *testing.T, m *winmax.Max, want uint64) {
	t.Helper()
	for range 2 {
		if v := m.Best(); v != want {
			t.Errorf("P8.1: Best: %d; want %d", v, want)
		}
	}
}

type row struct {
	name   string
	window uint64
	steps  []step
}

// rows: each row with a new one, step by step.
func rows(t *testing.T, l []row) {
	t.Helper()
	for _, r := range l {
		t.Run(r.name, func(t *testing.T) {
			m := winmax.New(r.window)
			best(t, m, 0)
			for k, s := range r.steps {
				update(t, m, s)
				if t.Failed() {
					t.Fatalf("the step %d of a window of %d", k, r.window)
				}
			}
		})
	}
}

// behind: those of first, and then others.
func behind(first []step, others ...step) []step {
	return append(append([]step{}, first...), others...)
}

// Beginnings with a window of 100: all three at 10 with 50; then the second and the third one at 40 with 30; then the third one at 70 with 20.
var (
	one   = []step{{10, 50, 50}}
	two   = []step{{10, 50, 50}, {40, 30, 50}}
	three = []step{{10, 50, 50}, {40, 30, 50}, {70, 20, 50}}
)

func TestExample(t *testing.T) {
	rows(t, []row{{"example 1", 10, []step{{1, 5, 5}, {2, 3, 5}, {20, 1, 1}}}})
}

// TestFirst: v is at least the first one's value: all three are t, v, so that the first one is of late till its own time and window.
func TestFirst(t *testing.T) {
	rows(t, []row{
		{"below", 100, behind(one, step{20, 49, 50}, step{110, 0, 50}, step{111, 0, 0})},
		{"at", 100, behind(one, step{20, 50, 50}, step{111, 0, 50}, step{120, 0, 50}, step{121, 0, 0})},
		{"above", 100, behind(one, step{20, 51, 51}, step{111, 0, 51}, step{120, 0, 51}, step{121, 0, 0})},
		{"of three, below", 100, behind(three, step{80, 49, 50}, step{111, 0, 49})},
		{"of three, at", 100, behind(three, step{80, 50, 50}, step{180, 0, 50}, step{181, 0, 0})},
		{"of three, above", 100, behind(three, step{80, 51, 51}, step{180, 0, 51}, step{181, 0, 0})},
		{"of three: the others are not what they were", 100, behind(three, step{80, 60, 60}, step{106, 9, 60}, step{180, 0, 60}, step{181, 0, 9})},
	})
}

// TestSilence: t is more than window behind the third one's time: all three are t, v.
func TestSilence(t *testing.T) {
	rows(t, []row{
		{"below", 100, behind(one, step{109, 7, 50})},
		{"at", 100, behind(one, step{110, 7, 50}, step{111, 0, 7})},
		{"above", 100, behind(one, step{111, 7, 7}, step{211, 0, 7}, step{212, 0, 0})},
		{"of two, at", 100, behind(two, step{140, 7, 30})},
		{"of two, above", 100, behind(two, step{141, 7, 7})},
		{"of three, below", 100, behind(three, step{169, 7, 20})},
		{"of three, at", 100, behind(three, step{170, 7, 20}, step{171, 0, 7})},
		{"of three, above", 100, behind(three, step{171, 7, 7}, step{271, 0, 7}, step{272, 0, 0})},
		{"from the beginning", 100, []step{{100, 0, 0}, {500, 3, 3}, {600, 2, 3}, {601, 1, 2}}},
	})
}

// TestSecond: v is at least the second one's value: the second and the third one are t, v.
func TestSecond(t *testing.T) {
	rows(t, []row{
		{"below", 100, behind(two, step{60, 29, 50}, step{111, 0, 30}, step{140, 0, 30}, step{141, 0, 0})},
		{"at", 100, behind(two, step{60, 30, 50}, step{111, 0, 30}, step{160, 0, 30}, step{161, 0, 0})},
		{"above", 100, behind(two, step{60, 31, 50}, step{111, 0, 31}, step{160, 0, 31}, step{161, 0, 0})},
		{"just below the first one", 100, behind(two, step{60, 49, 50}, step{111, 0, 49}, step{160, 0, 49}, step{161, 0, 0})},
		{"of three, below", 100, behind(three, step{80, 29, 50}, step{111, 0, 30}, step{140, 0, 30}, step{141, 0, 29}, step{180, 0, 29}, step{181, 0, 0})},
		{"of three, at", 100, behind(three, step{80, 30, 50}, step{111, 0, 30}, step{180, 0, 30}, step{181, 0, 0})},
		{"of three, above", 100, behind(three, step{80, 31, 50}, step{111, 0, 31}, step{180, 0, 31}, step{181, 0, 0})},
		{"of three, and the first one too old", 100, behind(three, step{111, 30, 30}, step{211, 0, 30}, step{212, 0, 0})},
	})
}

// TestThird: v is at least the third one's value: the third one is t, v.
func TestThird(t *testing.T) {
	rows(t, []row{
		{"below", 100, behind(three, step{90, 19, 50}, step{141, 0, 20}, step{170, 0, 20}, step{171, 0, 0})},
		{"at", 100, behind(three, step{90, 20, 50}, step{141, 0, 20}, step{190, 0, 20}, step{191, 0, 0})},
		{"above", 100, behind(three, step{90, 21, 50}, step{141, 0, 21}, step{190, 0, 21}, step{191, 0, 0})},
		{"just below the second one", 100, behind(three, step{90, 29, 50}, step{111, 0, 30}, step{141, 0, 29}, step{190, 0, 29}, step{191, 0, 0})},
		{"and the first one too old", 100, behind(three, step{111, 25, 30}, step{141, 0, 25}, step{211, 0, 25}, step{212, 0, 0})},
	})
}

// TestOld: d is above window, once, and once more likewise: those behind it take over, and t, v is the third one.
func TestOld(t *testing.T) {
	rows(t, []row{
		{"once, below", 100, behind(three, step{109, 7, 50}, step{110, 7, 50})},
		{"once, at", 100, behind(three, step{110, 7, 50}, step{111, 6, 30}, step{141, 5, 20}, step{170, 4, 20}, step{171, 0, 6})},
		{"once, above", 100, behind(three, step{111, 7, 30}, step{141, 5, 20}, step{170, 5, 20}, step{171, 4, 7}, step{211, 3, 7}, step{212, 2, 5})},
		{"once: t, v is the third one", 100, behind(three, step{111, 7, 30}, step{171, 0, 7}, step{211, 0, 7}, step{212, 0, 0})},
		{"once, the second one just at window", 100, behind(three, step{140, 7, 30}, step{141, 6, 20})},
		{"once more, above", 100, behind(three, step{141, 7, 20}, step{170, 6, 20}, step{171, 5, 7}, step{241, 4, 7}, step{242, 3, 6})},
		{"once more: t, v is the second and the third one", 100, behind(three, step{141, 7, 20}, step{171, 0, 7}, step{241, 0, 7}, step{242, 0, 0})},
		{"once more, the third one just at window", 100, behind(three, step{170, 7, 20}, step{171, 6, 7})},
		{"no quarter and no half of it counts then", 100, behind(two, step{111, 7, 30}, step{140, 6, 30}, step{141, 5, 6}, step{240, 0, 6}, step{241, 0, 0})},
	})
}

// TestQuarter: the second one's time is the first one's, and d is above a quarter of window: the second and the third one are t, v.
func TestQuarter(t *testing.T) {
	rows(t, []row{
		{"below", 100, behind(one, step{34, 30, 50}, step{110, 0, 50}, step{111, 0, 0})},
		{"at", 100, behind(one, step{35, 30, 50}, step{110, 0, 50}, step{111, 0, 0})},
		{"above", 100, behind(one, step{36, 30, 50}, step{110, 0, 50}, step{111, 0, 30}, step{136, 0, 30}, step{137, 0, 0})},
		{"the third one too", 100, behind(one, step{36, 30, 50}, step{136, 0, 30})},
		{"the third one too, and late", 100, behind(one, step{36, 30, 50}, step{137, 0, 0})},
		{"above half", 100, behind(one, step{90, 30, 50}, step{111, 0, 30}, step{190, 0, 30}, step{191, 0, 0})},
		{"not with a time of its own", 100, behind(two, step{45, 20, 50}, step{111, 0, 30}, step{140, 0, 30}, step{141, 0, 0})},
		{"not, since it was at least the second one", 100, behind(one, step{36, 30, 50}, step{37, 30, 50}, step{45, 20, 50}, step{111, 0, 30}, step{137, 0, 30}, step{138, 0, 0})},
	})
}

// TestHalf: the third one's time is the second one's, and d is above half of window: the third one is t, v.
func TestHalf(t *testing.T) {
	rows(t, []row{
		{"below", 100, behind(two, step{59, 20, 50}, step{111, 0, 30}, step{140, 0, 30}, step{141, 0, 0})},
		{"at", 100, behind(two, step{60, 20, 50}, step{111, 0, 30}, step{140, 0, 30}, step{141, 0, 0})},
		{"above", 100, behind(two, step{61, 20, 50}, step{111, 0, 30}, step{140, 0, 30}, step{141, 0, 20}, step{161, 0, 20}, step{162, 0, 0})},
		{"the second one stays", 100, behind(two, step{61, 20, 50}, step{111, 0, 30}, step{141, 0, 20})},
		{"not with a time of its own", 100, behind(three, step{80, 10, 50}, step{141, 0, 20}, step{170, 0, 20}, step{171, 0, 0})},
		{"d is from the first one on", 100, behind(one, step{60, 30, 50}, step{61, 20, 50}, step{111, 0, 30}, step{160, 0, 30}, step{161, 0, 20}, step{162, 0, 0})},
	})
}

// TestWindows: a quarter and a half of windows, rounded down, each at its edge; and window itself.
func TestWindows(t *testing.T) {
	for _, w := range []struct{ window, quarter, half uint64 }{
		{0, 0, 0}, {1, 0, 0}, {2, 0, 1}, {3, 0, 1}, {4, 1, 2}, {5, 1, 2}, {6, 1, 3}, {7, 1, 3}, {8, 2, 4}, {9, 2, 4},
		{10, 2, 5}, {11, 2, 5}, {13, 3, 6}, {1001, 250, 500}, {1<<62 + 1, 1 << 60, 1 << 61}, {1<<63 - 1, 1<<61 - 1, 1<<62 - 1},
	} {
		const at = 1000
		end := at + w.window
		run := func(steps ...step) {
			t.Helper()
			rows(t, []row{{"window", w.window, behind([]step{{at, 50, 50}}, steps...)}})
		}
		run(step{end, 0, 50}, step{end + 1, 0, 0})
		if w.quarter < w.window {
			run(step{at + w.quarter, 30, 50}, step{end, 0, 50}, step{end + 1, 0, 0})
			run(step{at + w.quarter + 1, 30, 50}, step{end, 0, 50}, step{end + 1, 0, 30}, step{end + w.quarter + 1, 0, 30}, step{end + w.quarter + 2, 0, 0})
		}
		if w.half > w.quarter {
			second := at + w.quarter + 1
			run(step{second, 30, 50}, step{at + w.half, 20, 50}, step{end + 1, 10, 30}, step{second + w.window, 10, 30}, step{second + w.window + 1, 9, 10})
			run(step{second, 30, 50}, step{at + w.half + 1, 20, 50}, step{end + 1, 10, 30}, step{second + w.window, 10, 30}, step{second + w.window + 1, 9, 20})
		}
	}
}

// TestBack: a t that is less than one that came before counts as the greatest time so far.
func TestBack(t *testing.T) {
	rows(t, []row{
		{"a first one", 100, []step{{500, 50, 50}, {0, 50, 50}, {600, 0, 50}, {601, 0, 0}}},
		{"greater", 100, []step{{500, 50, 50}, {20, 60, 60}, {600, 0, 60}, {601, 0, 0}}},
		{"a second one", 100, behind(two, step{0, 31, 50}, step{111, 0, 31}, step{140, 0, 31}, step{141, 0, 0})},
		{"a third one", 100, behind(three, step{69, 21, 50}, step{141, 0, 21}, step{170, 0, 21}, step{171, 0, 0})},
		{"by which nothing was turned", 100, behind(one, step{35, 0, 50}, step{20, 30, 50}, step{36, 20, 50}, step{111, 0, 20})},
		{"above a quarter", 100, behind(one, step{36, 20, 50}, step{0, 40, 50}, step{111, 0, 40}, step{136, 0, 40}, step{137, 0, 0})},
		{"too old", 100, behind(three, step{111, 9, 30}, step{0, 8, 30}, step{141, 0, 20}, step{171, 0, 9})},
		{"behind a silence", 100, behind(three, step{1000, 9, 9}, step{70, 5, 9}, step{1100, 4, 9}, step{1101, 3, 4})},
		{"again and again", 100, []step{{500, 50, 50}, {400, 40, 50}, {450, 30, 50}, {499, 20, 50}, {600, 10, 50}, {0, 9, 50}, {601, 8, 10}}},
	})
}

// TestEqual: equal values, and equal times.
func TestEqual(t *testing.T) {
	rows(t, []row{
		{"values", 100, []step{{10, 5, 5}, {110, 5, 5}, {210, 5, 5}, {300, 4, 5}, {310, 3, 5}, {311, 2, 4}}},
		{"values of 0", 100, []step{{10, 0, 0}, {20, 0, 0}, {500, 0, 0}, {500, 0, 0}, {501, 1, 1}, {501, 0, 1}}},
		{"times, falling", 100, []step{{10, 5, 5}, {10, 4, 5}, {10, 3, 5}, {110, 2, 5}, {111, 1, 2}}},
		{"times, rising", 100, []step{{10, 3, 3}, {10, 4, 4}, {10, 5, 5}, {110, 2, 5}, {111, 1, 2}}},
		{"times, of a second one", 100, behind(two, step{40, 20, 50}, step{40, 35, 50}, step{40, 10, 50}, step{111, 0, 35}, step{141, 0, 0})},
		{"times, of a third one", 100, behind(three, step{70, 10, 50}, step{70, 25, 50}, step{70, 5, 50}, step{141, 0, 25}, step{171, 0, 0})},
		{"both", 100, behind(three, step{70, 20, 50}, step{70, 20, 50}, step{111, 0, 30}, step{141, 0, 20}, step{171, 0, 0})},
	})
}

// TestGreatest: 0 and the greatest number as t, v and window.
func TestGreatest(t *testing.T) {
	const top = math.MaxUint64
	rows(t, []row{
		{"v", 100, []step{{10, top, top}, {20, top - 1, top}, {20, top, top}, {120, 0, top}, {121, 0, 0}}},
		{"t", 100, []step{{top, 9, 9}, {0, 8, 9}, {top, 7, 9}, {top - 1, 10, 10}, {top, 0, 10}}},
		{"t, at window", 100, []step{{top - 100, 9, 9}, {top, 8, 9}}},
		{"t, above window", 100, []step{{top - 101, 9, 9}, {top, 8, 8}}},
		{"t, above a quarter", 100, []step{{top - 101, 9, 9}, {top - 75, 8, 9}, {top, 7, 8}}},
		{"t, at a quarter", 100, []step{{top - 101, 9, 9}, {top - 76, 8, 9}, {top, 7, 7}}},
		{"t, as far as it goes", 100, []step{{0, 9, 9}, {top, 8, 8}, {0, 7, 8}}},
		{"window", top, []step{{0, 9, 9}, {1, 8, 9}, {top / 4, 8, 9}, {top / 2, 7, 9}, {top - 1, 6, 9}, {top, 5, 9}, {0, 4, 9}, {0, 10, 10}}},
		{"window, below it", top - 1, []step{{0, 9, 9}, {top - 1, 8, 9}, {top, 5, 8}}},
		{"window, a silence", top - 1, []step{{0, 9, 9}, {top, 5, 5}}},
		{"window, a quarter of it", top - 1, []step{{0, 9, 9}, {top / 4, 8, 9}, {top, 5, 5}}},
		{"window, above a quarter of it", top - 1, []step{{0, 9, 9}, {top/4 + 1, 8, 9}, {top, 5, 8}}},
		{"window of 0", 0, []step{{0, 9, 9}, {0, 8, 9}, {0, 9, 9}, {1, 1, 1}, {1, 0, 1}, {1, 2, 2}, {top, 0, 0}, {top, 0, 0}}},
		{"all of them", top, []step{{top, top, top}, {top, 0, top}, {0, top, top}, {0, 0, top}}},
		{"none of them", 0, []step{{0, 0, 0}, {0, 0, 0}, {1, 0, 0}}},
	})
}

// TestBeginning: ahead of any Update, all three are at 0 with 0.
func TestBeginning(t *testing.T) {
	for _, window := range []uint64{0, 1, 100, math.MaxUint64} {
		best(t, winmax.New(window), 0)
		for _, v := range []uint64{0, 1, math.MaxUint64} {
			for _, at := range []uint64{0, 1, 1000, math.MaxUint64} {
				m := winmax.New(window)
				update(t, m, step{at, v, v})
			}
		}
	}
	m := new(winmax.Max) // R1: one that New did not make
	best(t, m, 0)
	update(t, m, step{5, 3, 3})
	m.Reset(6, 2)
	best(t, m, 2)
}

// TestReset: all three are t, v, whatever they were; times that came stay so.
func TestReset(t *testing.T) {
	for _, r := range []struct {
		name  string
		first []step
		t, v  uint64
		then  []step
	}{
		{"in the beginning", nil, 10, 50, []step{{35, 30, 50}, {110, 0, 50}, {111, 0, 0}}},
		{"in the beginning, above a quarter", nil, 10, 50, []step{{36, 30, 50}, {111, 0, 30}, {137, 0, 0}}},
		{"to less", three, 80, 7, []step{{105, 6, 7}, {180, 5, 7}, {181, 4, 5}}},
		{"to less, above a quarter", three, 80, 7, []step{{106, 6, 7}, {180, 5, 7}, {181, 4, 6}}},
		{"to the same", three, 80, 50, []step{{180, 5, 50}, {181, 4, 5}}},
		{"to more", three, 80, 70, []step{{180, 5, 70}, {181, 4, 5}}},
		{"to 0", three, 80, 0, []step{{90, 0, 0}, {91, 1, 1}}},
		{"to the greatest", three, 80, math.MaxUint64, []step{{180, math.MaxUint64 - 1, math.MaxUint64}, {181, 0, math.MaxUint64 - 1}}},
		{"to later", three, 300, 7, []step{{399, 6, 7}, {400, 5, 7}, {401, 4, 6}}},
		{"to the greatest time", three, math.MaxUint64, 7, []step{{90, 6, 7}, {math.MaxUint64, 5, 7}}},
		// The time of it counts as one that came before.
		{"to later, then back", three, 300, 7, []step{{90, 7, 7}, {400, 6, 7}, {401, 5, 6}}},
		// It is t, v, not a later one; what comes then is not ahead of what came.
		{"to earlier", three, 65, 7, []step{{0, 6, 7}, {165, 5, 7}, {166, 4, 5}}},
		{"to earlier, at window", []step{{165, 50, 50}}, 65, 7, []step{{0, 6, 7}, {166, 5, 6}, {265, 4, 6}, {266, 3, 4}}},
		{"to earlier, above window", []step{{166, 50, 50}}, 65, 7, []step{{0, 6, 6}, {266, 5, 6}, {267, 4, 5}}},
		{"to 0, long behind", []step{{1000, 50, 50}}, 0, 7, []step{{5, 2, 2}, {1100, 1, 2}, {1101, 0, 1}}},
		{"to 0 in the beginning", nil, 0, 0, []step{{5, 2, 2}}},
	} {
		t.Run(r.name, func(t *testing.T) {
			m := winmax.New(100)
			for _, s := range r.first {
				update(t, m, s)
			}
			m.Reset(r.t, r.v)
			best(t, m, r.v)
			for _, s := range r.then {
				update(t, m, s)
			}
		})
	}
}

// TestApart: R2: what is done with one is not to be seen in another.
func TestApart(t *testing.T) {
	a, b := winmax.New(10), winmax.New(20)
	update(t, a, step{5, 9, 9})
	best(t, b, 0)
	b.Reset(100, 4)
	best(t, a, 9)
	update(t, a, step{15, 3, 9})
	update(t, b, step{0, 2, 4})
	update(t, b, step{120, 1, 4})
	update(t, a, step{16, 2, 3})
	best(t, winmax.New(10), 0)
}

func TestNil(t *testing.T) {
	var none *winmax.Max
	for _, at := range []uint64{0, 1, math.MaxUint64} {
		for _, v := range []uint64{0, 5, math.MaxUint64} {
			update(t, none, step{at, v, 0})
			none.Reset(at, v)
			best(t, none, 0)
		}
	}
}
