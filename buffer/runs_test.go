package buffer_test

import (
	"math"
	"slices"
	"testing"

	"canter/api"
	"canter/buffer"
)

// States of a byte.
const (
	isWritten = 0
	isTaken   = 1
	isAcked   = 2
)

// byHand: the bytes one by one, each with how far it came, as the chapter's words have it.
type byHand struct {
	room  int
	bytes []int
}

// count: how many bytes are in one of those states.
func (h *byHand) count(states ...int) int {
	n := 0
	for _, s := range h.bytes {
		if slices.Contains(states, s) {
			n++
		}
	}
	return n
}

func (h *byHand) write(n int) api.Errno {
	switch {
	case n <= 0:
		return errArg
	case n > h.room, n+h.count(isWritten, isTaken) > h.room:
		return errFull
	}
	for range n {
		h.bytes = append(h.bytes, isWritten)
	}
	return ok
}

// take: the numbers of the bytes that are taken by it.
func (h *byHand) take(most int) []int {
	var told []int
	for n, s := range h.bytes {
		if s == isWritten && len(told) < most {
			h.bytes[n] = isTaken
			told = append(told, n)
		}
	}
	return told
}

func (h *byHand) acked(upto uint64) api.Errno {
	if upto > uint64(h.count(isTaken, isAcked)) {
		return errAck
	}
	for n := range h.bytes {
		if uint64(n) < upto {
			h.bytes[n] = isAcked
		}
	}
	return ok
}

// Kinds of a deed.
const (
	doWrite = 0
	doTake  = 1
	doAcked = 2
	kinds   = 3
)

type deed struct {
	kind int
	n    int    // of a Write, a Take
	upto uint64 // of an Acked
}

// both: a buffer and its second telling, and how often each byte was taken.
type both struct {
	b     *buffer.Buffer
	h     *byHand
	taken []int
}

func pair(room int) *both {
	return &both{b: buffer.New(room), h: &byHand{room: room}}
}

// do: one deed, with both, and whether they answer the same; what came up is noted in seen.
func (p *both) do(t *testing.T, d deed, seen map[string]int) {
	t.Helper()
	switch d.kind {
	case doWrite:
		want := p.h.write(d.n)
		write(t, p.b, d.n, want)
		seen[[...]string{ok: "written", errArg: "write of none", errFull: "full"}[want]]++
	case doTake:
		p.take(t, d.n, seen)
	case doAcked:
		before := p.h.count(isAcked)
		want := p.h.acked(d.upto)
		acked(t, p.b, d.upto, want)
		switch {
		case want == errAck && d.upto <= uint64(len(p.h.bytes)):
			seen["acked of what is unsent"]++
		case want == errAck:
			seen["acked of what was not written"]++
		case d.upto < uint64(before):
			seen["acked of less"]++
		case d.upto == uint64(before):
			seen["acked of as much"]++
		default:
			seen["acked"]++
		}
	}
	holds(t, p.b, uint64(p.h.count(isWritten)), uint64(p.h.count(isWritten, isTaken)), uint64(len(p.h.bytes)))
}

// take: a Take with both; each byte is taken once, and in order.
func (p *both) take(t *testing.T, most int, seen map[string]int) {
	t.Helper()
	unsent := p.h.count(isWritten)
	told := p.h.take(most)
	r, is := p.b.Take(most)
	if is != (len(told) > 0) || !is && r != (api.Range{}) {
		t.Errorf("P21.1: Take(%d): %+v, %t; want the bytes %v", most, r, is, told)
		return
	}
	var bytes []int
	for n := r.From; n < r.To && len(bytes) <= len(told); n++ {
		bytes = append(bytes, int(n))
	}
	if !slices.Equal(bytes, told) {
		t.Errorf("P21.1: Take(%d): %+v, %t; want the bytes %v", most, r, is, told)
		return
	}
	for _, n := range bytes {
		if n != len(p.taken) {
			t.Errorf("what follows: Take(%d): the byte %d; %d is next", most, n, len(p.taken))
		}
		p.taken = append(p.taken, n)
	}
	switch {
	case most < 1:
		seen["take of none"]++
	case unsent == 0:
		seen["nothing unsent"]++
	case most < unsent:
		seen["less than there are"]++
	case most == unsent:
		seen["as many as there are"]++
	default:
		seen["more than there are"]++
	}
}

// all: what may come up.
func all() []string {
	return []string{"written", "write of none", "full", "take of none", "nothing unsent", "less than there are", "as many as there are", "more than there are",
		"acked of what is unsent", "acked of what was not written", "acked of less", "acked of as much", "acked"}
}

func often(t *testing.T, seen map[string]int, least int) {
	t.Helper()
	for _, what := range all() {
		if seen[what] < least {
			t.Errorf("%q came up %d times; want %d at least", what, seen[what], least)
		}
	}
}

// TestShortRuns: all runs of a few deeds, on small buffers.
func TestShortRuns(t *testing.T) {
	var deeds []deed
	for _, n := range []int{0, 1, 2, 3} {
		deeds = append(deeds, deed{kind: doWrite, n: n}, deed{kind: doTake, n: n}, deed{kind: doAcked, upto: uint64(n)})
	}
	seen := map[string]int{}
	for _, room := range []int{0, 1, 2, 3, 5} {
		var walk func(run []deed, left int)
		walk = func(run []deed, left int) {
			p := pair(room)
			for _, d := range run {
				p.do(t, d, seen)
			}
			if t.Failed() {
				t.Fatalf("P21.1: New(%d), and the run %v", room, run)
			}
			if left == 0 {
				return
			}
			for _, d := range deeds {
				walk(append(slices.Clone(run), d), left-1)
			}
		}
		walk(nil, 4)
	}
	often(t, seen, 50)
}

// next: a short rule that tells numbers of all sizes, one from the other.
func next(x uint64) uint64 {
	x ^= x << 13
	x ^= x >> 7
	return x ^ x<<17
}

// near: a number up to 2 below or above one, or now and then one of the greatest or least of all.
func near(x uint64, n int) int {
	if x%32 == 0 {
		far := []int{math.MinInt, -1 << 32, -1, 1 << 32, math.MaxInt - 1, math.MaxInt}
		return far[x>>8%uint64(len(far))]
	}
	return n + int(x>>8%5) - 2
}

// chosen: a deed, of kinds as often as the weights say, and with numbers about the edges as they are, or within them.
func (p *both) chosen(x uint64, weights [kinds]uint64) deed {
	unsent, held, written := p.h.count(isWritten), p.h.count(isWritten, isTaken), len(p.h.bytes)
	small := int(x >> 32 % 5)
	at := x >> 4 % (weights[doWrite] + weights[doTake] + weights[doAcked])
	edge := x>>24%2 == 0
	switch {
	case at < weights[doWrite] && edge:
		return deed{kind: doWrite, n: near(next(x), p.h.room-held)}
	case at < weights[doWrite]:
		return deed{kind: doWrite, n: small}
	case at < weights[doWrite]+weights[doTake] && edge:
		return deed{kind: doTake, n: near(next(x), unsent)}
	case at < weights[doWrite]+weights[doTake]:
		return deed{kind: doTake, n: small}
	}
	edges := []int{written, written - unsent, written - held, written - held + small}
	// A number below 0 is one of the greatest.
	return deed{kind: doAcked, upto: uint64(near(next(x), edges[x>>28%4]))}
}

// TestLongRuns: many deeds in a row, of kinds that come more or less often, so that a buffer is now full, now empty.
func TestLongRuns(t *testing.T) {
	seen := map[string]int{}
	for row, weights := range [][kinds]uint64{{1, 1, 1}, {4, 1, 1}, {1, 4, 1}, {1, 1, 4}, {4, 4, 1}, {1, 8, 8}, {8, 1, 8}, {8, 4, 4}} {
		for _, room := range []int{0, 1, 2, 7, 30, 100} {
			p := pair(room)
			x := uint64(88172645463325252) + uint64(row*1000+room)
			for n := range 600 {
				x = next(x)
				d := p.chosen(x, weights)
				p.do(t, d, seen)
				if t.Failed() {
					t.Fatalf("P21.1: row %d, New(%d): deed %d: %+v", row, room, n, d)
				}
			}
			p.rest(t)
		}
	}
	often(t, seen, 200)
}

// rest: what is Unsent at the end is taken, and then each byte that was written was taken, once.
func (p *both) rest(t *testing.T) {
	t.Helper()
	if r, is := p.b.Take(math.MaxInt); is {
		for n := r.From; n < r.To; n++ {
			p.taken = append(p.taken, int(n))
		}
	}
	if uint64(len(p.taken)) != p.b.Written() {
		t.Errorf("what follows: %d bytes were taken; %d were written", len(p.taken), p.b.Written())
	}
	for n, at := range p.taken {
		if n != at {
			t.Fatalf("what follows: the byte %d was taken as number %d", at, n)
		}
	}
}
