package fq_test

import (
	"slices"
	"strconv"

	"canter/api"
)

// told: the chapter's words, one by one: what a queue has come to.
type told struct {
	config     api.Config
	flows      [socks]*toldFlow
	fresh, old []int          // sockets
	seen       map[string]int // how often what came up
}

type toldFlow struct {
	credit, place int
	next, since   uint64
	segs          []api.Seg
}

// byHand: one in which nothing is.
func byHand(c api.Config) *told { return &told{config: c, seen: map[string]int{}} }

func plus(a, b uint64) uint64 {
	if a > most-b {
		return most
	}
	return a + b
}

// time: of a flow with segments.
func (f *toldFlow) time() uint64 { return max(f.next, f.segs[0].Stamp) }

func mayBe(c api.Config) bool {
	return !(c.Quantum < 100 || c.Quantum > 65_536 || c.First < 100 || c.First > 65_536 || c.Limit < 1 || c.Limit > 512 || c.FlowLimit < 1 || c.FlowLimit > 512 ||
		c.Horizon > 1<<62 || c.Cap < 1 || c.Cap > 1<<30 || c.Mss < 100 || c.Mss > 9_000)
}

func (o *told) set(c api.Config) api.Errno {
	if !mayBe(c) {
		o.seen["no config"]++
		return api.ErrConfig
	}
	o.seen["config"]++
	o.config = c
	return api.OK
}

func (o *told) len() int {
	n := 0
	for _, f := range o.flows {
		if f != nil {
			n += len(f.segs)
		}
	}
	return n
}

func (o *told) enqueue(s api.Seg, now uint64) (int, api.Errno) {
	if s.Sock < 0 || s.Sock > 7 {
		o.seen["refused"]++
		return 0, api.ErrSock
	}
	if s.Len < 1 || s.Len > 65_536 {
		o.seen["refused"]++
		return 0, api.ErrArg
	}
	for sock, f := range o.flows {
		if f != nil && f.place == nowhere && plus(f.since, 3*second) <= now {
			o.seen["collected"]++
			o.flows[sock] = nil
		}
	}
	fate := o.fate(s, now)
	o.seen["fate "+strconv.Itoa(fate)]++
	if fate == accepted {
		o.accept(s, now)
	}
	return fate, api.OK
}

func (o *told) fate(s api.Seg, now uint64) int {
	if o.len() >= o.config.Limit {
		return overLimit
	}
	if f := o.flows[s.Sock]; f != nil && len(f.segs) >= o.config.FlowLimit {
		return overFlow
	}
	if s.Stamp > plus(now, o.config.Horizon) && o.config.DropHorizon {
		return horizon
	}
	return accepted
}

func (o *told) accept(s api.Seg, now uint64) {
	if s.Stamp > plus(now, o.config.Horizon) {
		o.seen["Stamp cut"]++
		s.Stamp = plus(now, o.config.Horizon)
	}
	f := o.flows[s.Sock]
	if f == nil {
		o.seen["new flow"]++
		f = &toldFlow{credit: o.config.First}
		o.flows[s.Sock] = f
	} else if f.place == nowhere && f.credit < o.config.Quantum {
		if plus(f.since, second/25) <= now {
			o.seen["refilled"]++
			f.credit = o.config.Quantum
		} else {
			o.seen["not refilled"]++
		}
	}
	if f.place == nowhere {
		f.place, f.since = inNew, 0
		o.fresh = append(o.fresh, s.Sock)
	}
	f.segs = append(f.segs, s)
}

// wake: again and again the one of the least time, and of those the least socket.
func (o *told) wake(now uint64) {
	for {
		first := -1
		for sock, f := range o.flows {
			if f != nil && f.place == waiting && f.time() <= now && (first < 0 || f.time() < o.flows[first].time()) {
				first = sock
			}
		}
		if first < 0 {
			return
		}
		o.seen["woken"]++
		o.flows[first].place = inOld
		o.old = append(o.old, first)
	}
}

// drop: the head is in no list.
func (o *told) drop() {
	if len(o.fresh) > 0 {
		o.fresh = o.fresh[1:]
	} else {
		o.old = o.old[1:]
	}
}

func (o *told) back(sock int) {
	o.drop()
	o.flows[sock].place = inOld
	o.old = append(o.old, sock)
}

func (o *told) dequeue(now uint64, rates []uint64) (api.Seg, bool) {
	o.wake(now)
	for len(o.fresh)+len(o.old) > 0 {
		sock := slices.Concat(o.fresh, o.old)[0]
		f := o.flows[sock]
		if f.credit <= 0 {
			o.seen["Back"]++
			f.credit += o.config.Quantum
			o.back(sock)
			continue
		}
		if len(f.segs) == 0 {
			if len(o.fresh) > 0 && len(o.old) > 0 {
				o.seen["Back, empty"]++
				o.back(sock)
			} else {
				o.seen["Nowhere"]++
				o.drop()
				f.place, f.since = nowhere, now
			}
			continue
		}
		if f.time() > now {
			o.seen["Waiting"]++
			o.drop()
			f.place = waiting
			continue
		}
		o.seen["departed"]++
		s := f.segs[0]
		f.segs = slices.Clone(f.segs[1:])
		f.credit -= s.Len
		takes := o.takes(s, rates)
		if takes > 0 {
			o.seen["Next above now"]++
		}
		f.next = plus(now, takes)
		return s, true
	}
	o.seen["none"]++
	return api.Seg{}, false
}

// takes: how long s does, at the lesser rate; one of 0 is none.
func (o *told) takes(s api.Seg, rates []uint64) uint64 {
	longest := uint64(0)
	rate := []uint64{o.config.MaxRate}
	if s.Sock < len(rates) {
		rate = append(rate, rates[s.Sock])
	}
	for _, r := range rate {
		if r > 0 && r < most {
			longest = max(longest, min(uint64(s.Len)*second/r, second))
		}
	}
	return longest
}

func (o *told) watchdog() (uint64, bool) {
	var l []uint64
	for _, f := range o.flows {
		if f != nil && f.place == waiting {
			l = append(l, f.time())
		}
	}
	if len(l) == 0 {
		return 0, false
	}
	return slices.Min(l), true
}

func (o *told) close(sock int) []api.Seg {
	if sock < 0 || sock > 7 || o.flows[sock] == nil {
		return nil
	}
	is := func(s int) bool { return s == sock }
	o.fresh = slices.DeleteFunc(slices.Clone(o.fresh), is)
	o.old = slices.DeleteFunc(slices.Clone(o.old), is)
	f := o.flows[sock]
	o.seen["closed at "+strconv.Itoa(f.place)]++
	o.flows[sock] = nil
	return f.segs
}

func (o *told) flow(sock int) (api.Flow, bool) {
	if sock < 0 || sock > 7 || o.flows[sock] == nil {
		return api.Flow{}, false
	}
	f := o.flows[sock]
	return api.Flow{Sock: sock, Credit: f.credit, Place: f.place, Next: f.next, Since: f.since, Segs: f.segs}, true
}
