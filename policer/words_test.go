package policer_test

import (
	"math/bits"
	"slices"
	"testing"

	"canter/api"
	"canter/policer"
)

const (
	most   = 1<<64 - 1
	second = api.Second
	few    = api.LtRounds
	many   = 4 * api.LtRounds
	end    = api.LtMaxRounds
)

var bools = []bool{false, true}

// step: what an Update is handed.
type step struct {
	start bool
	s     api.Sample
}

// path: steps, one behind the other.
type path []step

// and: with those behind it.
func (h path) and(steps ...step) path { return append(slices.Clip(h), steps...) }

// rounds: with n rounds behind it, in which nothing is lost.
func (h path) rounds(n, now, delivered uint64) path {
	return h.and(slices.Repeat(path{{true, api.Sample{Now: now, Delivered: delivered}}}, int(n))...)
}

// walked: a new one that was handed all of it.
func (h path) walked() *policer.Policer {
	p := policer.New()
	for _, l := range h {
		p.Update(l.start, l.s)
	}
	return p
}

// told: the chapter's words, one by one: what one has come to.
type told struct {
	use, samples bool
	bw, rounds   uint64 // bw 0: none
	// Where the sample began, and what was lost then.
	now, delivered, lost uint64
	all                  uint64 // that was lost so far
}

func (o *told) update(l step) {
	s := l.s
	o.all = plus(o.all, s.Lost)
	if o.use {
		if l.start {
			o.rounds++
			if o.rounds == end {
				o.use, o.samples, o.bw, o.rounds = false, false, 0, 0
			}
		}
	} else if !o.samples {
		if s.Lost > 0 {
			o.begins(s)
		}
	} else if s.Limited {
		o.samples, o.bw = false, 0
	} else {
		if l.start {
			o.rounds++
		}
		if o.rounds > many {
			o.samples, o.bw = false, 0
		} else if o.rounds >= few && s.Lost > 0 {
			o.ends(s)
		}
	}
}

func (o *told) begins(s api.Sample) {
	o.samples = true
	o.now, o.delivered, o.lost = s.Now, s.Delivered, o.all
	o.rounds = 0
}

func (o *told) ends(s api.Sample) {
	delivered, lost, time := less(s.Delivered, o.delivered), less(o.all, o.lost), less(s.Now, o.now)
	if delivered > 0 && time > 0 && lost >= enough(delivered) {
		bw := over(delivered, second, time)
		if o.bw > 0 && apart(bw, o.bw) <= o.bw/8 {
			o.bw = together(bw, o.bw)
			o.use = true
			o.rounds = 0
		} else {
			o.bw = bw
			o.begins(s)
		}
	}
}

func (o *told) asked() (uint64, bool) {
	if o.use {
		return o.bw, true
	}
	return 0, false
}

// plus: the sum; the greatest number, if it is greater.
func plus(a, b uint64) uint64 {
	if a > most-b {
		return most
	}
	return a + b
}

// less: the difference; 0, if it is less.
func less(a, b uint64) uint64 {
	if a > b {
		return a - b
	}
	return 0
}

// over: a times b, divided by c, which is above 0; the greatest number, if it is greater.
func over(a, b, c uint64) uint64 {
	hi, lo := bits.Mul64(a, b)
	if hi >= c {
		return most
	}
	q, _ := bits.Div64(hi, lo, c)
	return q
}

// enough: how much must be lost of so much that was delivered.
func enough(delivered uint64) uint64 { return over(delivered, api.LtLoss, api.Unit) }

func apart(a, b uint64) uint64 { return less(a, b) + less(b, a) }

// together: half of both, by a sum of 65 bits.
func together(a, b uint64) uint64 {
	sum, carry := bits.Add64(a, b, 0)
	return carry<<63 | sum>>1
}

// tail: so many rounds, and then steps by each of which a sample may end: behind the last one so much later, with so much more delivered.
func (o told) tail(n, delivered, time, lost uint64) path {
	now, got := o.now, o.delivered
	h := make(path, 0, n+3*(few+1))
	rounds := func(n uint64) {
		for range n {
			h = append(h, step{true, api.Sample{Now: now, Delivered: got}})
		}
	}
	rounds(n)
	for range 3 {
		now, got = now+time, got+delivered // they may go round: then the step is one that falls
		h = append(h, step{false, api.Sample{Now: now, Delivered: got, Lost: lost}})
		rounds(few)
		lost = max(1, delivered)
	}
	return h
}

// tails: by which it is told apart what one has come to.
func (o told) tails() []path {
	var l []path
	if o.use {
		left := end - o.rounds
		l = append(l, path(nil).rounds(left, 0, 0))
		for _, n := range []uint64{left - 1, left} {
			l = append(l, o.tail(n, 100, second, 1))
		}
		return l
	}
	ahead := []uint64{0}
	for _, n := range []uint64{few - 1, few, many, many + 1} {
		if n > o.rounds {
			ahead = append(ahead, n-o.rounds)
		}
	}
	short := func(delivered uint64) uint64 { return max(1, less(plus(o.lost, enough(delivered)), o.all)) }
	for _, n := range ahead {
		// So little delivered that anything lost is enough, in so little time that one more or less is much.
		l = append(l, o.tail(n, 5, 1, 1), o.tail(n, 2560, second, short(2560)))
	}
	n := less(few, o.rounds)
	if lost := short(2560); lost > 1 {
		l = append(l, o.tail(n, 2560, second, lost-1))
	}
	for _, bw := range []uint64{o.bw, plus(o.bw, o.bw/8), plus(o.bw, o.bw/8+1), o.bw - o.bw/8, less(o.bw, o.bw/8+1)} {
		if bw > 0 {
			l = append(l, o.tail(n, bw, second, short(bw)))
		}
	}
	return l
}

// stands: whether a path has come to that, by Use now, and behind each step of what tells it apart.
func stands(t *testing.T, h path, want told) {
	t.Helper()
	for _, tail := range want.tails() {
		p, o := h.walked(), want
		asked(t, p, &o)
		for _, l := range tail {
			p.Update(l.start, l.s)
			o.update(l)
			asked(t, p, &o)
		}
		if t.Failed() {
			t.Fatalf("P16.1: not at %+v behind %+v: told apart by %+v", want, h, tail)
		}
	}
}

// asked: whether Use is what it should be; asking turns nothing: a second one answers the same.
func asked(t *testing.T, p *policer.Policer, o *told) {
	t.Helper()
	want, in := o.asked()
	for range 2 {
		if bw, is := p.Use(); bw != want || is != in {
			t.Errorf("P16.1: Use: %d, %t; want %d, %t", bw, is, want, in)
		}
	}
}

// way: a path that comes to that. Its sample began behind a Second and bw, in a bandwidth behind enough that was lost.
func (o told) way() path {
	var h path
	switch {
	case o.use:
		h = measured(o.bw, 1+need(o.bw))
		h = h.rounds(few, second, o.bw).and(step{false, api.Sample{Now: 2 * second, Delivered: 2 * o.bw, Lost: need(o.bw)}})
		h = h.rounds(o.rounds, 0, 0)
		return h.and(step{false, api.Sample{Lost: o.all - h.lost()}})
	case !o.samples:
		if o.all > 0 {
			h = h.and(step{false, api.Sample{Lost: o.all}}, step{false, api.Sample{Limited: true}})
		}
		return h
	case o.bw > 0:
		h = measured(o.bw, o.lost)
		for i := range h {
			h[i].s.Now += o.now - second
			h[i].s.Delivered += o.delivered - o.bw
		}
	default:
		h = path{{false, api.Sample{Now: o.now, Delivered: o.delivered, Lost: o.lost}}}
	}
	h = h.rounds(o.rounds, o.now, o.delivered)
	return h.and(step{false, api.Sample{Now: o.now, Delivered: o.delivered, Lost: o.all - o.lost}})
}

// measured: a sample of that bandwidth, over a Second from 0 on, and the next one begins; so much lost in all.
func measured(bw, lost uint64) path {
	h := path{{false, api.Sample{Lost: lost - need(bw)}}}.rounds(few, 0, 0)
	return h.and(step{false, api.Sample{Now: second, Delivered: bw, Lost: need(bw)}})
}

// need: how much must be lost at its end of a sample in which nothing was lost ahead of that.
func need(delivered uint64) uint64 { return max(1, enough(delivered)) }

// lost: in all of it.
func (h path) lost() (all uint64) {
	for _, l := range h {
		all = plus(all, l.s.Lost)
	}
	return all
}

// comes: a step of one that has come to o: what it has come to then.
func comes(t *testing.T, o told, l step, want told) {
	t.Helper()
	stands(t, o.way().and(l), want)
	if t.Failed() {
		t.Fatalf("P16.1: at %+v: %+v; want %+v", o, l, want)
	}
}
