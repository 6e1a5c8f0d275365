package fq

import (
	"canter/api"
	"canter/delay"
	"canter/sat"
)

// flow: of a socket; its zero value, as long as it is not there.
type flow struct {
	there       bool
	credit      int
	next, since uint64 // since: 0, unless it is Nowhere
	segs        []api.Seg
}

// time: none of it departs ahead of that.
func (f *flow) time() uint64 {
	if len(f.segs) == 0 {
		return f.next
	}
	return max(f.next, f.segs[0].Stamp)
}

// depart: the first segment, which is in it no more; the next one waits for as long as this one takes at that rate.
func (f *flow) depart(now, rate uint64) api.Seg {
	s := f.segs[0]
	f.segs = f.segs[1:]
	f.credit -= s.Len
	f.next = sat.Add(now, delay.Of(s.Len, rate))
	return s
}

// rate: how fast what is of the socket goes.
func (q *Queue) rate(sock int, rates []uint64) uint64 {
	rate := uint64(api.Unlimited)
	if sock < len(rates) {
		rate = rates[sock]
	}
	return delay.Lesser(rate, q.config.MaxRate)
}

// key: by which the socket's flow waits, if it does: nothing that its time hangs on changes meanwhile.
func (q *Queue) key(sock int) api.Key {
	return api.Key{A: q.flows[sock].time(), B: uint64(sock)}
}

// place: where the socket's flow is.
func (q *Queue) place(sock int) int {
	if q.waits.Has(q.key(sock)) {
		return api.Waiting
	}
	return q.turns.Place(sock)
}

// anyOld: whether there is an old flow.
func (q *Queue) anyOld() bool {
	for _, fresh := range q.turns.All() {
		if !fresh {
			return true
		}
	}
	return false
}

// rested: whether the socket's flow is Nowhere, and has been for that long.
func (q *Queue) rested(sock int, long, now uint64) bool {
	return q.place(sock) == api.Nowhere && sat.Add(q.flows[sock].since, long) <= now
}

// collect: the flows that nobody has needed for long are there no more.
func (q *Queue) collect(now uint64) {
	for sock := range q.flows {
		if q.rested(sock, api.CollectAge, now) {
			q.flows[sock] = flow{}
		}
	}
}

// put: s is behind all of its flow, which has its turn with the others, or waits.
func (q *Queue) put(s api.Seg, now uint64) {
	f := &q.flows[s.Sock]
	switch {
	case !f.there:
		f.there, f.credit = true, q.config.First
	case q.rested(s.Sock, api.RefillDelay, now):
		f.credit = max(f.credit, q.config.Quantum)
	}
	if q.place(s.Sock) == api.Nowhere {
		f.since = 0
		q.turns.Push(s.Sock, true)
	}
	f.segs = append(f.segs, s)
}

// wake: those that wait for a time that has come go behind all old ones, by rising time, then socket.
func (q *Queue) wake(now uint64) {
	var due []api.Key
walk:
	for k := range q.waits.All() {
		if k.A > now {
			break walk
		}
		// A tree is not to be changed while it is ranged over.
		due = append(due, k)
	}
	for _, k := range due {
		q.waits.Delete(k)
		q.turns.Push(int(k.B), false)
	}
}
