package sampler_test

import (
	"math"
	"testing"

	"canter/api"
	"canter/sampler"
)

const most = math.MaxUint64

// sent: Sent(now, flight), and what it is to answer.
func sent(t *testing.T, s *sampler.Sampler, now, flight uint64, want api.Sent) api.Sent {
	t.Helper()
	got := s.Sent(now, flight)
	if got != want {
		t.Errorf("P10.1: Sent(%d, %d): %+v; want %+v", now, flight, got, want)
	}
	return got
}

// take: Take(now, lost, flight), and what it is to answer.
func take(t *testing.T, s *sampler.Sampler, now, lost, flight uint64, want api.Sample) {
	t.Helper()
	if got := s.Take(now, lost, flight); got != want {
		t.Errorf("P10.2: Take(%d, %d, %d): %+v; want %+v", now, lost, flight, got, want)
	}
}

// delivered: whether Delivered tells that, and turns nothing: a second one tells it too.
func delivered(t *testing.T, s *sampler.Sampler, want uint64) {
	t.Helper()
	for range 2 {
		if got := s.Delivered(); got != want {
			t.Errorf("P10.1: Delivered: %d; want %d", got, want)
		}
	}
}

// limited: whether what is sent is; by a Sent with something under way, which turns nothing.
func limited(t *testing.T, s *sampler.Sampler, want bool) {
	t.Helper()
	if got := s.Sent(0, 1).Limited; got != want {
		t.Errorf("P10.1: Sent: Limited is %t; want %t", got, want)
	}
}

// firstAt: when sending began, as a Sent with something under way tells it.
func firstAt(t *testing.T, s *sampler.Sampler, want uint64) {
	t.Helper()
	if got := s.Sent(0, 1).FirstAt; got != want {
		t.Errorf("P10.1: Sent: FirstAt %d; want %d", got, want)
	}
}

func TestExample(t *testing.T) {
	s := sampler.New()
	that := sent(t, s, 0, 0, api.Sent{})
	s.Acked(10, 100, that)
	take(t, s, 10, 0, 0, api.Sample{Now: 10, Delivered: 100, Interval: 10, Acked: 100, Rtt: 10})
}

// TestBeginning: all that it has is 0, and nothing was acknowledged.
func TestBeginning(t *testing.T) {
	for _, s := range []*sampler.Sampler{sampler.New(), {}} { // R1: the second one New did not make
		delivered(t, s, 0)
		sent(t, s, 7, 1, api.Sent{At: 7})
		take(t, s, 9, 3, 4, api.Sample{Now: 9, Lost: 3, Flight: 4})
		delivered(t, s, 0)
	}
}

func TestSentFlight(t *testing.T) {
	s := sampler.New()
	sent(t, s, 10, 0, api.Sent{At: 10, DeliveredAt: 10, FirstAt: 10})
	sent(t, s, 15, 1, api.Sent{At: 15, DeliveredAt: 10, FirstAt: 10})
	sent(t, s, 16, most, api.Sent{At: 16, DeliveredAt: 10, FirstAt: 10})
	s.Acked(30, 100, api.Sent{At: 12})
	sent(t, s, 31, 5, api.Sent{At: 31, Delivered: 100, DeliveredAt: 30, FirstAt: 12})
	sent(t, s, 40, 0, api.Sent{At: 40, Delivered: 100, DeliveredAt: 40, FirstAt: 40})
	sent(t, s, 41, 1, api.Sent{At: 41, Delivered: 100, DeliveredAt: 40, FirstAt: 40})
	// A now of any size counts as it is.
	sent(t, s, 3, 9, api.Sent{At: 3, Delivered: 100, DeliveredAt: 40, FirstAt: 40})
	sent(t, s, 2, 0, api.Sent{At: 2, Delivered: 100, DeliveredAt: 2, FirstAt: 2})
	sent(t, s, most, 0, api.Sent{At: most, Delivered: 100, DeliveredAt: most, FirstAt: most})
	sent(t, s, 0, 0, api.Sent{Delivered: 100})
}

// TestSentLimited: by a mark of 0, and by one that is not; and Sent leaves the mark.
func TestSentLimited(t *testing.T) {
	s := sampler.New()
	for _, flight := range []uint64{0, 1, most} {
		sent(t, s, 5, flight, api.Sent{At: 5, DeliveredAt: 5, FirstAt: 5})
	}
	s.Limit(1)
	for _, flight := range []uint64{0, 1, most} {
		sent(t, s, 6, flight, api.Sent{At: 6, DeliveredAt: 6, FirstAt: 6, Limited: true})
	}
	s.Acked(7, 2, api.Sent{})
	sent(t, s, 8, 0, api.Sent{At: 8, Delivered: 2, DeliveredAt: 8, FirstAt: 8})
}

// TestSentKeeps: Sent leaves what was acknowledged since the last Take.
func TestSentKeeps(t *testing.T) {
	s := sampler.New()
	s.Acked(20, 5, api.Sent{At: 8, Delivered: 4, DeliveredAt: 3, FirstAt: 1, Limited: true})
	s.Sent(21, 0)
	s.Sent(22, 1)
	take(t, s, 23, 0, 0, api.Sample{Now: 23, Delivered: 5, Prior: 4, Interval: 20, Rtt: 12, Acked: 5, Limited: true})
}

func TestAckedSums(t *testing.T) {
	for _, r := range []struct {
		first, second uint64 // sizes
		sum           uint64
	}{
		{0, 0, 0}, {0, 7, 7}, {7, 0, 7}, {3, 4, 7}, {1 << 40, 1 << 41, 3 << 40},
		{most - 1, 0, most - 1}, {most - 1, 1, most}, {1, most - 1, most}, {most, 0, most}, {0, most, most},
		{most - 1, 2, most}, {most, 1, most}, {1, most, most}, {most, most, most}, {1 << 63, 1 << 63, most}, {1 << 63, 1<<63 - 1, most},
	} {
		s := sampler.New()
		s.Acked(1, r.first, api.Sent{})
		delivered(t, s, r.first)
		s.Acked(2, r.second, api.Sent{})
		delivered(t, s, r.sum)
		sent(t, s, 3, 1, api.Sent{At: 3, Delivered: r.sum, DeliveredAt: 2})
		take(t, s, 4, 0, 0, api.Sample{Now: 4, Delivered: r.sum, Interval: 4, Rtt: 2, Acked: r.sum})
		// What is delivered stays; how much was acknowledged is from the Take on.
		s.Acked(5, r.second, api.Sent{})
		all := sum(r.sum, r.second)
		delivered(t, s, all)
		take(t, s, 6, 0, 0, api.Sample{Now: 6, Delivered: all, Interval: 6, Rtt: 5, Acked: r.second})
	}
}

// TestAckedAt: deliveredAt is now, whatever it was, and whether or not the one acknowledged is the newest.
func TestAckedAt(t *testing.T) {
	s := sampler.New()
	for _, r := range []struct{ now, prior uint64 }{{9, 5}, {12, 5}, {15, 4}, {11, 6}, {most, 0}, {0, 0}, {1, 9}} {
		s.Acked(r.now, 0, api.Sent{Delivered: r.prior})
		sent(t, s, 2, 1, api.Sent{At: 2, DeliveredAt: r.now})
	}
}

// TestMark: the mark is 0, once what is delivered is above it: at it, one below and one above.
func TestMark(t *testing.T) {
	for _, r := range []struct {
		ahead, flight uint64
		sizes         []uint64
		limited       []bool
	}{
		{0, 100, []uint64{99}, []bool{true}},
		{0, 100, []uint64{100}, []bool{true}},
		{0, 100, []uint64{101}, []bool{false}},
		{0, 100, []uint64{0, 50, 49, 1, 1, 1}, []bool{true, true, true, true, false, false}},
		{50, 100, []uint64{99}, []bool{true}},
		{50, 100, []uint64{100}, []bool{true}},
		{50, 100, []uint64{101}, []bool{false}},
		{50, 100, []uint64{100, 0, 1}, []bool{true, true, false}},
		{50, 0, []uint64{0}, []bool{true}},
		{50, 0, []uint64{1}, []bool{false}},
		{0, 0, []uint64{0}, []bool{true}},
		{0, 0, []uint64{1}, []bool{true}},
		{0, 0, []uint64{2}, []bool{false}},
		{0, 0, []uint64{1, 1}, []bool{true, false}},
		{0, 1, []uint64{1, 1}, []bool{true, false}},
		{1, 0, []uint64{0, 1}, []bool{true, false}},
		{0, most - 1, []uint64{most - 1, 1}, []bool{true, false}},
		{1, most - 2, []uint64{most - 2, 1}, []bool{true, false}},
		{1, most - 1, []uint64{most - 2, 1, 1}, []bool{true, true, true}},
		{2, most - 1, []uint64{most - 2, 1, most}, []bool{true, true, true}},
		{0, most, []uint64{most, most}, []bool{true, true}},
		{most, most, []uint64{1, most}, []bool{true, true}},
		{most, 0, []uint64{0, most}, []bool{true, true}},
	} {
		s := sampler.New()
		s.Acked(1, r.ahead, api.Sent{})
		s.Limit(r.flight)
		limited(t, s, true)
		for i, size := range r.sizes {
			s.Acked(2, size, api.Sent{})
			limited(t, s, r.limited[i])
			if t.Failed() {
				t.Fatalf("Limit(%d) with %d delivered, sizes %d, the place %d", r.flight, r.ahead, r.sizes, i)
			}
		}
	}
}

// TestLimitAnew: a Limit sets the mark anew, to more and to less; Take leaves it.
func TestLimitAnew(t *testing.T) {
	s := sampler.New()
	s.Limit(10)
	s.Limit(3)
	s.Acked(1, 3, api.Sent{})
	s.Take(2, 0, 0)
	limited(t, s, true)
	s.Acked(3, 1, api.Sent{})
	limited(t, s, false)
	s.Limit(2)
	s.Limit(5)
	s.Acked(4, 5, api.Sent{})
	limited(t, s, true)
	s.Acked(5, 1, api.Sent{})
	limited(t, s, false)
	s.Take(6, 0, 0)
	limited(t, s, false)
}

// TestLimitKeeps: Limit turns nothing but the mark.
func TestLimitKeeps(t *testing.T) {
	s := sampler.New()
	s.Sent(4, 0)
	s.Acked(20, 5, api.Sent{At: 8, Delivered: 4, DeliveredAt: 3, FirstAt: 1})
	s.Limit(most)
	delivered(t, s, 5)
	sent(t, s, 21, 1, api.Sent{At: 21, Delivered: 5, DeliveredAt: 20, FirstAt: 8, Limited: true})
	take(t, s, 23, 0, 0, api.Sample{Now: 23, Delivered: 5, Prior: 4, Interval: 20, Rtt: 12, Acked: 5})
}

// TestNewest: the first one since the last Take counts, whatever its Delivered; a later one, if its Delivered is at least prior.
func TestNewest(t *testing.T) {
	first := api.Sent{At: 30, Delivered: 100, DeliveredAt: 25, FirstAt: 10, Limited: true}
	for _, r := range []struct {
		name   string
		second api.Sent
		want   api.Sample
		at     uint64
	}{
		{"below", api.Sent{At: 40, Delivered: 99, DeliveredAt: 7, FirstAt: 1},
			api.Sample{Prior: 100, Interval: 75, Rtt: 20, Limited: true}, 30},
		{"far below", api.Sent{At: 40, DeliveredAt: 7, FirstAt: 1},
			api.Sample{Prior: 100, Interval: 75, Rtt: 20, Limited: true}, 30},
		{"at", api.Sent{At: 40, Delivered: 100, DeliveredAt: 7, FirstAt: 1},
			api.Sample{Prior: 100, Interval: 93, Rtt: 20}, 40},
		{"at, sent earlier", api.Sent{At: 20, Delivered: 100, DeliveredAt: 98, FirstAt: 1, Limited: true},
			api.Sample{Prior: 100, Interval: 19, Rtt: 40, Limited: true}, 20},
		{"above", api.Sent{At: 40, Delivered: 101, DeliveredAt: 7, FirstAt: 1},
			api.Sample{Prior: 101, Interval: 93, Rtt: 20}, 40},
		{"far above", api.Sent{At: 41, Delivered: most, DeliveredAt: 90, FirstAt: 1},
			api.Sample{Prior: most, Interval: 40, Rtt: 19}, 41},
	} {
		t.Run(r.name, func(t *testing.T) {
			s := sampler.New()
			s.Acked(50, 3, first)
			firstAt(t, s, first.At)
			s.Acked(60, 4, r.second)
			firstAt(t, s, r.at)
			want := r.want
			want.Now, want.Delivered, want.Acked = 100, 7, 7
			take(t, s, 100, 0, 0, want)
			firstAt(t, s, r.at)
		})
	}
}

// TestNewestFirst: behind a Take the first one counts again, however old it is; and behind it those that are no older than it.
func TestNewestFirst(t *testing.T) {
	s := sampler.New()
	s.Acked(50, 3, api.Sent{At: 30, Delivered: 100, DeliveredAt: 25, FirstAt: 10})
	s.Take(51, 0, 0)
	s.Acked(60, 1, api.Sent{At: 20, Delivered: 9, DeliveredAt: 12, FirstAt: 5})
	firstAt(t, s, 20)
	s.Acked(61, 1, api.Sent{At: 19, Delivered: 8, DeliveredAt: 1, FirstAt: 1})
	firstAt(t, s, 20)
	s.Acked(62, 1, api.Sent{At: 25, Delivered: 10, DeliveredAt: 14, FirstAt: 6})
	firstAt(t, s, 25)
	s.Acked(63, 1, api.Sent{At: 26, Delivered: 9, DeliveredAt: 1, FirstAt: 1})
	firstAt(t, s, 25)
	take(t, s, 64, 0, 0, api.Sample{Now: 64, Delivered: 7, Prior: 10, Interval: 50, Rtt: 37, Acked: 4})
	// Delivered of 0, which prior is in the beginning.
	s.Acked(70, 1, api.Sent{At: 3, FirstAt: 1, DeliveredAt: 2, Limited: true})
	firstAt(t, s, 3)
	take(t, s, 71, 0, 0, api.Sample{Now: 71, Delivered: 8, Interval: 69, Rtt: 67, Acked: 1, Limited: true})
}

// TestFirstAt: a Sent with nothing under way sets it as well; one that does not count as the newest leaves what that set.
func TestFirstAt(t *testing.T) {
	s := sampler.New()
	s.Acked(50, 3, api.Sent{At: 30, Delivered: 100})
	s.Sent(55, 0)
	s.Acked(60, 1, api.Sent{At: 20, Delivered: 99})
	firstAt(t, s, 55)
	s.Acked(61, 1, api.Sent{At: 20, Delivered: 100})
	firstAt(t, s, 20)
	s.Acked(61, 1, api.Sent{At: most, Delivered: 100})
	firstAt(t, s, most)
	s.Acked(62, 1, api.Sent{Delivered: most})
	firstAt(t, s, 0)
}

// TestTimes: the sending time, the round trip, and the Interval, of times one behind the other, the same, and turned.
func TestTimes(t *testing.T) {
	for _, r := range []struct {
		name                   string
		at, first, priorAt     uint64
		now, taken             uint64
		wantInterval, wantTrip uint64
	}{
		{"the sending time", 50, 10, 30, 60, 69, 40, 10},
		{"now less priorAt", 50, 10, 30, 60, 71, 41, 10},
		{"both the same", 50, 10, 30, 60, 70, 40, 10},
		{"taken right then", 50, 40, 30, 60, 60, 30, 10},
		{"sent below the first one", 9, 10, 30, 60, 65, 35, 51},
		{"sent far below the first one", 0, most, 30, 60, 65, 35, 60},
		{"sent with the first one", 10, 10, 30, 60, 65, 35, 50},
		{"sent one behind the first one", 11, 10, 30, 60, 30, 1, 49},
		{"acknowledged below sent", 50, 10, 30, 49, 31, 40, 0},
		{"acknowledged far below sent", most, 10, 30, 0, 31, most - 10, 0},
		{"acknowledged as sent", 50, 10, 30, 50, 31, 40, 0},
		{"acknowledged one behind sent", 50, 10, 30, 51, 31, 40, 1},
		{"taken below priorAt", 50, 45, 30, 60, 29, 5, 10},
		{"taken far below priorAt", 50, 45, most, 60, 0, 5, 10},
		{"taken at priorAt", 50, 45, 30, 60, 30, 5, 10},
		{"all turned", 5, 6, 7, 4, 6, 0, 0},
		{"taken ahead of acknowledged", 50, 45, 30, 60, 55, 25, 10},
		{"as far as it goes, sending", most, 0, most, most, most, most, 0},
		{"as far as it goes, delivering", 0, 0, 0, most, most, most, most},
	} {
		t.Run(r.name, func(t *testing.T) {
			s := sampler.New()
			s.Acked(r.now, 8, api.Sent{At: r.at, Delivered: 6, DeliveredAt: r.priorAt, FirstAt: r.first})
			take(t, s, r.taken, 2, 3, api.Sample{
				Now: r.taken, Delivered: 8, Prior: 6, Interval: r.wantInterval, Rtt: r.wantTrip, Acked: 8, Lost: 2, Flight: 3,
			})
		})
	}
}

// TestTakeFields: each field, with something acknowledged, and with nothing: right behind a Take, and with numbers of any size.
func TestTakeFields(t *testing.T) {
	s := sampler.New()
	nothing := func() {
		t.Helper()
		for _, n := range []uint64{0, 1, 40, most} {
			take(t, s, n, 0, 0, api.Sample{Now: n, Delivered: s.Delivered()})
			take(t, s, 0, n, 0, api.Sample{Lost: n, Delivered: s.Delivered()})
			take(t, s, 0, 0, n, api.Sample{Flight: n, Delivered: s.Delivered()})
		}
	}
	nothing()
	s.Acked(20, 5, api.Sent{At: 8, Delivered: 4, DeliveredAt: 3, FirstAt: 1, Limited: true})
	take(t, s, 30, 11, 12, api.Sample{Now: 30, Delivered: 5, Prior: 4, Interval: 27, Rtt: 12, Acked: 5, Lost: 11, Flight: 12, Limited: true})
	take(t, s, 30, 11, 12, api.Sample{Now: 30, Delivered: 5, Lost: 11, Flight: 12})
	nothing()
	s.Acked(20, 6, api.Sent{At: 8, Delivered: 4, DeliveredAt: 3, FirstAt: 1})
	take(t, s, 9, most, most, api.Sample{Now: 9, Delivered: 11, Prior: 4, Interval: 7, Rtt: 12, Acked: 6, Lost: most, Flight: most})
	nothing()
}

// TestTakeKeeps: Take turns nothing but what was acknowledged.
func TestTakeKeeps(t *testing.T) {
	s := sampler.New()
	s.Acked(20, 5, api.Sent{At: 8, Delivered: 4})
	s.Limit(9)
	want := api.Sent{At: 40, Delivered: 5, DeliveredAt: 20, FirstAt: 8, Limited: true}
	sent(t, s, 40, 1, want)
	s.Take(30, 1, 2)
	sent(t, s, 40, 1, want)
	s.Take(31, 1, 0)
	sent(t, s, 40, 1, want)
	delivered(t, s, 5)
}

// TestLimitedOfNewest: Limited is what stood with the newest one, not the mark as it is.
func TestLimitedOfNewest(t *testing.T) {
	for _, was := range []bool{false, true} {
		for _, is := range []bool{false, true} {
			s := sampler.New()
			if is {
				s.Limit(most)
			}
			s.Acked(20, 5, api.Sent{Delivered: 4, Limited: was})
			s.Acked(21, 5, api.Sent{Delivered: 3, Limited: !was})
			limited(t, s, is)
			take(t, s, 0, 0, 0, api.Sample{Delivered: 10, Prior: 4, Rtt: 20, Acked: 10, Limited: was})
		}
	}
}

// TestSizeNone: of size 0, something was acknowledged.
func TestSizeNone(t *testing.T) {
	s := sampler.New()
	s.Acked(20, 0, api.Sent{At: 8, Delivered: 4, DeliveredAt: 3, FirstAt: 1, Limited: true})
	sent(t, s, 21, 1, api.Sent{At: 21, DeliveredAt: 20, FirstAt: 8})
	s.Acked(22, 0, api.Sent{At: 9, Delivered: 3})
	take(t, s, 30, 0, 0, api.Sample{Now: 30, Prior: 4, Interval: 27, Rtt: 12, Limited: true})
	take(t, s, 30, 0, 0, api.Sample{Now: 30})
	delivered(t, s, 0)
}

// TestApart: R2: what is done with one, or with a copy of it, is not to be seen in another.
func TestApart(t *testing.T) {
	a, b := sampler.New(), sampler.New()
	a.Sent(5, 0)
	a.Acked(9, 7, api.Sent{At: 5, Delivered: 3})
	a.Limit(4)
	c := *a
	delivered(t, b, 0)
	sent(t, b, 1, 1, api.Sent{At: 1})
	take(t, b, 2, 0, 0, api.Sample{Now: 2})
	c.Acked(20, 100, api.Sent{At: 6, Delivered: 4})
	c.Take(21, 0, 0)
	sent(t, a, 10, 1, api.Sent{At: 10, Delivered: 7, DeliveredAt: 9, FirstAt: 5, Limited: true})
	take(t, a, 11, 0, 0, api.Sample{Now: 11, Delivered: 7, Prior: 3, Interval: 11, Rtt: 4, Acked: 7})
}

func TestNil(t *testing.T) {
	var none *sampler.Sampler
	for _, n := range []uint64{0, 1, most} {
		sent(t, none, n, n, api.Sent{})
		none.Acked(n, n, api.Sent{At: n, Delivered: n, DeliveredAt: n, FirstAt: n, Limited: true})
		delivered(t, none, 0)
		none.Limit(n)
		sent(t, none, n, 0, api.Sent{})
		take(t, none, n, n, n, api.Sample{})
		delivered(t, none, 0)
	}
}
