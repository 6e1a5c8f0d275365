package fq_test

import (
	"slices"
	"testing"

	"canter/api"
	"canter/fq"
)

// run: a queue, the same by hand, and what departs of it, held against what follows.
type run struct {
	q     *fq.Queue
	hand  *told
	trail trail
}

func begun(t *testing.T, c api.Config) *run {
	t.Helper()
	return &run{q: made(t, c), hand: byHand(c)}
}

// trail: of each socket what was put in and neither departed nor was closed, which flow was the last that one departed of, and till when that one takes.
type trail struct {
	queued [socks][]api.Seg
	flows  [socks]*toldFlow
	free   [socks]uint64
}

func (r *run) enqueue(t *testing.T, s api.Seg, now uint64) {
	t.Helper()
	wantFate, wantErr := r.hand.enqueue(s, now)
	fate, err := r.q.Enqueue(s, now)
	if fate != wantFate || err != wantErr {
		t.Errorf("P20.2: Enqueue(%+v, %d): %d, error %d; want %d, error %d", s, now, fate, err, wantFate, wantErr)
	}
	if err == api.OK && fate == accepted {
		r.trail.queued[s.Sock] = append(r.trail.queued[s.Sock], s)
	}
}

func (r *run) dequeue(t *testing.T, now uint64, rates []uint64) {
	t.Helper()
	want, wantOk := r.hand.dequeue(now, rates)
	handed := slices.Concat(rates, []uint64{7, 8})
	s, ok := r.q.Dequeue(now, handed[:len(rates)])
	if s != want || ok != wantOk {
		t.Errorf("P20.3: Dequeue(%d, %d): %+v, %t; want %+v, %t", now, rates, s, ok, want, wantOk)
	}
	if !slices.Equal(handed, slices.Concat(rates, []uint64{7, 8})) {
		t.Errorf("P20.3: Dequeue(%d, %d): the rates are %d", now, rates, handed)
	}
	if ok {
		r.leaves(t, s, now, r.hand.takes(s, rates))
		return
	}
	for sock := range socks {
		if f, _ := r.q.Flow(sock); len(f.Segs) > 0 && (f.Place != waiting || max(f.Next, f.Segs[0].Stamp) <= now) {
			t.Errorf("P20.3: Dequeue(%d): none; the flow %+v", now, f)
		}
	}
}

// leaves: whether s was the first one of its flow to be put in, does not depart ahead of its time, and is so far from the one ahead of it.
func (r *run) leaves(t *testing.T, s api.Seg, now, takes uint64) {
	t.Helper()
	if s.Sock < 0 || s.Sock >= socks || len(r.trail.queued[s.Sock]) == 0 {
		t.Errorf("P20.3: %+v departs; none of it is queued", s)
		return
	}
	first := r.trail.queued[s.Sock][0]
	r.trail.queued[s.Sock] = r.trail.queued[s.Sock][1:]
	if s.From != first.From || s.Len != first.Len || s.Again != first.Again || s.Stamp > first.Stamp || s.Stamp > now {
		t.Errorf("P20.3: at %d %+v departs; %+v is the first one", now, s, first)
	}
	if r.trail.flows[s.Sock] == r.hand.flows[s.Sock] && now < r.trail.free[s.Sock] {
		t.Errorf("what follows: at %d %+v departs; the one ahead of it takes till %d", now, s, r.trail.free[s.Sock])
	}
	r.trail.flows[s.Sock], r.trail.free[s.Sock] = r.hand.flows[s.Sock], plus(now, takes)
}

func (r *run) close(t *testing.T, sock int) {
	t.Helper()
	want := slices.Clone(r.hand.close(sock))
	l := r.q.Close(sock)
	if !slices.Equal(l, want) {
		t.Errorf("P20.4: Close(%d): %+v; want %+v", sock, l, want)
	}
	if sock >= 0 && sock < socks {
		if len(l) != len(r.trail.queued[sock]) {
			t.Errorf("P20.4: Close(%d): %+v; put in were %+v", sock, l, r.trail.queued[sock])
		}
		r.trail.queued[sock] = nil
	}
	spoil(l)
}

func (r *run) set(t *testing.T, c api.Config) {
	t.Helper()
	set(t, r.q, c, r.hand.set(c))
}

// tells: whether all that may be asked is told as by hand; what is told is spoilt then.
func (r *run) tells(t *testing.T) {
	t.Helper()
	for sock := -1; sock <= socks; sock++ {
		f, ok := r.q.Flow(sock)
		if want, wantOk := r.hand.flow(sock); !same(f, want) || ok != wantOk {
			t.Errorf("P20.4: Flow(%d): %+v, %t; want %+v, %t", sock, f, ok, want, wantOk)
		}
		spoil(f.Segs)
	}
	if n := r.q.Len(); n != r.hand.len() {
		t.Errorf("P20.4: Len: %d; want %d", n, r.hand.len())
	}
	at, ok := r.hand.watchdog()
	watches(t, r.q, at, ok)
}

// deed: one of few, at a time that is so much behind the last one's.
type deed struct {
	name  string
	later uint64
	do    func(t *testing.T, r *run, now uint64)
}

// deeds: of two sockets, such that a few in a row bring a flow to each place.
func deeds() []deed {
	rates := []uint64{100_000_000, 0, 0, 0, 0, 0, 0, 1}
	less := api.Config{Quantum: 100, First: 100, Limit: 2, FlowLimit: 1, Horizon: 5, DropHorizon: true, Cap: 1, Mss: 100}
	return []deed{
		{"put 0", 0, func(t *testing.T, r *run, now uint64) { r.enqueue(t, seg(0, 0, 250), now) }},
		{"put 0 later", 0, func(t *testing.T, r *run, now uint64) { r.enqueue(t, stamped(0, 1, 50, now+10), now) }},
		{"put 7", 0, func(t *testing.T, r *run, now uint64) { r.enqueue(t, seg(7, 2, 200), now) }},
		{"put 7 late", refill, func(t *testing.T, r *run, now uint64) { r.enqueue(t, seg(7, 3, 100), now) }},
		{"put 7 too late", age, func(t *testing.T, r *run, now uint64) { r.enqueue(t, stamped(7, 4, 100, most), now) }},
		{"pull", 0, func(t *testing.T, r *run, now uint64) { r.dequeue(t, now, rates) }},
		{"pull at no rate", 10, func(t *testing.T, r *run, now uint64) { r.dequeue(t, now, nil) }},
		{"pull late", second, func(t *testing.T, r *run, now uint64) { r.dequeue(t, now, rates) }},
		{"close 0", 0, func(t *testing.T, r *run, _ uint64) { r.close(t, 0) }},
		{"close 7", 0, func(t *testing.T, r *run, _ uint64) { r.close(t, 7) }},
		{"set", 0, func(t *testing.T, r *run, _ uint64) { r.set(t, less) }},
	}
}

// TestShortRuns: all runs of a few deeds.
func TestShortRuns(t *testing.T) {
	c := api.Config{Quantum: 150, First: 200, Limit: 3, FlowLimit: 2, Horizon: 100, Cap: 1000, Mss: 1000}
	all := deeds()
	const length = 5
	var names [length]string
	for n := range power(len(all), length) {
		r := begun(t, c)
		now := uint64(1)
		for i := range length {
			d := all[n%len(all)]
			n /= len(all)
			now += d.later
			d.do(t, r, now)
			names[i] = d.name
		}
		r.tells(t)
		if t.Failed() {
			t.Fatalf("the run %q", names)
		}
	}
}

// power: so often n times itself.
func power(n, often int) int {
	v := 1
	for range often {
		v *= n
	}
	return v
}

// source: numbers of a run, by a short rule, one from the other.
type source uint64

func (x *source) any() uint64 {
	*x ^= *x << 13
	*x ^= *x >> 7
	*x ^= *x << 17
	return uint64(*x)
}

// below: a number below n.
func (x *source) below(n int) int { return int(x.any() >> 16 % uint64(n)) }

// one: of those.
func one[T any](x *source, l ...T) T { return l[x.below(len(l))] }

// about: one below, at, or above v, as far as numbers go.
func (x *source) about(v uint64) uint64 {
	return one(x, max(v, 1)-1, v, plus(v, 1))
}

// world: a run in which it is now some time, with numbers that hang on what is there.
type world struct {
	*source
	*run
	now  uint64
	from uint64
}

// config: one that may be; of many small ones more turns up.
func (w *world) config() api.Config {
	return api.Config{
		Quantum:     one(w.source, 100, 101, 300, 1000, 3000, longest),
		First:       one(w.source, 100, 500, 1500, 10_000, longest),
		Limit:       one(w.source, 1, 5, 20, 60, 512),
		FlowLimit:   one(w.source, 1, 3, 10, 30, 512),
		Horizon:     one[uint64](w.source, 0, 1, 1000, 1_000_000, second, 10*second, maxTime),
		MaxRate:     one[uint64](w.source, 0, 0, 0, 1000, 100_000, 10_000_000, 1_000_000_000, most-1, most),
		DropHorizon: w.below(2) == 0,
		Cap:         one(w.source, 1, 1000, 1<<30),
		Mss:         one(w.source, 100, 1460, 9000),
	}
}

// wrong: one that may not be.
func (w *world) wrong() api.Config {
	c := w.config()
	f := one(w.source, fields()...)
	f.set(&c, one(w.source, f.least-1, f.most+1))
	return c
}

func (w *world) rates() []uint64 {
	l := make([]uint64, one(w.source, 0, 0, 1, 4, 7, 8, 8, 8, 9))
	for i := range l {
		l[i] = one[uint64](w.source, 0, 1, 1000, 100_000, 10_000_000, 1_000_000_000, most-1, most)
	}
	return l
}

// times: about which something turns.
func (w *world) times() []uint64 {
	l := []uint64{w.now}
	for _, f := range w.hand.flows {
		switch {
		case f == nil:
		case f.place == nowhere:
			l = append(l, plus(f.since, refill), plus(f.since, age))
		case len(f.segs) > 0:
			l = append(l, f.time())
		}
	}
	return l
}

// move: on, by a little as a rule, or to about when something turns; back only if it may.
func (w *world) move(back bool) {
	was := w.now
	switch w.below(8) {
	case 0:
		w.now = w.about(one(w.source, w.times()...))
	case 1:
		w.now = plus(w.now, uint64(w.below(1000)))
	case 2:
		w.now = plus(w.now, uint64(w.below(100_000_000)))
	case 3:
		if w.below(20) == 0 {
			w.now = plus(w.now, uint64(w.below(4*second)))
		}
	case 4:
		if w.below(20) == 0 {
			w.now -= min(w.now, uint64(w.below(second)))
		}
	}
	if !back {
		w.now = max(w.now, was)
	}
}

// seg: one of those that may come; now and then a wrong one.
func (w *world) seg() api.Seg {
	w.from++
	s := api.Seg{Sock: w.below(socks), From: w.from, Len: 1 + w.below(one(w.source, 10, 300, 3000, longest)), Again: w.below(5) == 0}
	switch w.below(4) {
	case 0:
		s.Stamp = w.about(w.now)
	case 1:
		s.Stamp = w.about(plus(w.now, w.hand.config.Horizon))
	case 2:
		s.Stamp = one(w.source, 0, plus(w.now, uint64(w.below(1000))), plus(w.now, uint64(w.below(second))), most)
	}
	if w.below(40) == 0 {
		s.Sock = one(w.source, outside()...)
	}
	if w.below(40) == 0 {
		s.Len = one(w.source, wrong()...)
	}
	return s
}

// step: a deed; the more is put in, the fuller the queue is.
func (w *world) step(t *testing.T, puts int, back bool) {
	t.Helper()
	w.move(back)
	switch n := w.below(200); {
	case n < puts:
		w.enqueue(t, w.seg(), w.now)
	case n < 195:
		w.dequeue(t, w.now, w.rates())
	case n < 197:
		w.close(t, w.below(socks))
	case n == 197:
		w.close(t, one(w.source, outside()...))
	case n == 198:
		w.run.set(t, w.config())
	default:
		w.run.set(t, w.wrong())
	}
	w.tells(t)
}

// things: that are to come up.
func things() []string {
	return []string{
		"refused", "collected", "new flow", "refilled", "not refilled", "Stamp cut", "fate 0", "fate 2", "fate 3", "fate 4",
		"woken", "Back", "Back, empty", "Nowhere", "Waiting", "departed", "Next above now", "none",
		"closed at 0", "closed at 1", "closed at 2", "closed at 3", "config", "no config",
	}
}

// TestRuns: long mixed runs of all calls, from several times on, with more or less put in.
func TestRuns(t *testing.T) {
	seen := map[string]int{}
	for row, r := range []struct {
		now  uint64
		puts int
		back bool
	}{
		{0, 100, false}, {0, 60, false}, {second, 140, false}, {maxTime, 80, false}, {0, 100, true}, {maxTime, 60, true}, {most - 20*second, 100, true}, {most - 3*second, 60, true},
	} {
		for n := range 40 {
			w := &world{source: new(source(88172645463325252 + 100*row + n)), now: r.now}
			w.run = begun(t, w.config())
			for i := range 500 {
				w.step(t, r.puts, r.back)
				if t.Failed() {
					t.Fatalf("row %d, run %d, deed %d, now %d", row, n, i, w.now)
				}
			}
			for thing, often := range w.hand.seen {
				seen[thing] += often
			}
		}
	}
	for _, thing := range things() {
		if seen[thing] < 100 {
			t.Errorf("%s: %d times: too few to tell", thing, seen[thing])
		}
	}
}
