package lists_test

import (
	"slices"
	"testing"

	"canter/api"
	"canter/lists"
)

// byHand: the two lists as the chapter's words have them.
type byHand struct{ fresh, old []int }

func (h *byHand) there(sock int) bool {
	return slices.Contains(h.fresh, sock) || slices.Contains(h.old, sock)
}

func (h *byHand) push(sock int, fresh bool) api.Errno {
	switch {
	case sock < 0 || sock > socks-1:
		return api.ErrSock
	case h.there(sock):
		return api.ErrThere
	case fresh:
		h.fresh = append(h.fresh, sock)
	default:
		h.old = append(h.old, sock)
	}
	return api.OK
}

func (h *byHand) remove(sock int) bool {
	was := h.there(sock)
	is := func(s int) bool { return s == sock }
	h.fresh, h.old = slices.DeleteFunc(h.fresh, is), slices.DeleteFunc(h.old, is)
	return was
}

func (h *byHand) drop() bool {
	switch {
	case len(h.fresh) > 0:
		h.fresh = slices.Clone(h.fresh[1:])
	case len(h.old) > 0:
		h.old = slices.Clone(h.old[1:])
	default:
		return false
	}
	return true
}

func (h *byHand) back() bool {
	switch {
	case len(h.fresh) > 0:
		h.old = append(h.old, h.fresh[0])
		h.fresh = slices.Clone(h.fresh[1:])
	case len(h.old) > 0:
		h.old = append(slices.Clone(h.old[1:]), h.old[0])
	default:
		return false
	}
	return true
}

// Kinds of a deed.
const (
	pushNew = 0
	pushOld = 1
	doDrop  = 2
	doBack  = 3
	doRid   = 4
	kinds   = 5
)

type deed struct{ kind, sock int }

// do: one deed, with both, and whether they answer the same.
func do(t *testing.T, l *lists.Lists, h *byHand, d deed) {
	t.Helper()
	switch d.kind {
	case pushNew:
		push(t, l, d.sock, true, h.push(d.sock, true))
	case pushOld:
		push(t, l, d.sock, false, h.push(d.sock, false))
	case doDrop:
		drop(t, l, h.drop())
	case doBack:
		back(t, l, h.back())
	case doRid:
		remove(t, l, d.sock, h.remove(d.sock))
	}
}

// once: whether each socket is in one place at once: what All tells of it is told once, and Place tells the same.
func once(t *testing.T, l *lists.Lists) {
	t.Helper()
	var at [socks]int // its place, as All tells
	for sock, fresh := range l.All() {
		if sock < 0 || sock >= socks || at[sock] != nowhere {
			t.Errorf("what follows: All: %d, which is no socket, or was told", sock)
			return
		}
		at[sock] = inOld
		if fresh {
			at[sock] = inNew
		}
	}
	for sock, p := range at {
		place(t, l, sock, p)
	}
}

// TestShortRuns: all runs of a few deeds with three sockets.
func TestShortRuns(t *testing.T) {
	deeds := []deed{{doDrop, 0}, {doBack, 0}}
	for _, sock := range []int{0, 1, socks - 1} {
		deeds = append(deeds, deed{pushNew, sock}, deed{pushOld, sock}, deed{doRid, sock})
	}
	var walk func(run []deed, left int)
	walk = func(run []deed, left int) {
		l, h := lists.New(), &byHand{}
		for _, d := range run {
			do(t, l, h, d)
		}
		holds(t, l, h.fresh, h.old)
		if t.Failed() {
			t.Fatalf("P19.1: the run %v", run)
		}
		if left == 0 {
			return
		}
		for _, d := range deeds {
			walk(append(slices.Clone(run), d), left-1)
		}
	}
	walk(nil, 4)
}

// next: a short rule that tells numbers of all sizes, one from the other.
func next(x uint64) uint64 {
	x ^= x << 13
	x ^= x >> 7
	return x ^ x<<17
}

// chosen: a deed with one socket of many that are, or one of few that are none; the weights say of how many deeds how many are of each kind.
func chosen(x uint64, weights [kinds]uint64) deed {
	var of uint64
	for _, w := range weights {
		of += w
	}
	sock := int(x>>20%(socks+2)) - 1
	if x>>40%64 == 0 {
		sock = outside()[x>>48%uint64(len(outside()))]
	}
	at := x >> 8 % of
	for kind, w := range weights {
		if at < w {
			return deed{kind, sock}
		}
		at -= w
	}
	return deed{}
}

// TestLongRuns: many deeds in a row, of kinds that come more or less often, so that the lists are now full, now empty.
func TestLongRuns(t *testing.T) {
	for row, weights := range [][kinds]uint64{
		{1, 1, 1, 1, 1}, {4, 4, 1, 2, 1}, {4, 4, 0, 4, 0}, {8, 1, 1, 4, 1}, {1, 8, 2, 1, 1}, {4, 4, 6, 2, 0}, {4, 4, 0, 1, 5}, {1, 1, 8, 1, 4},
	} {
		l, h := lists.New(), &byHand{}
		x := uint64(88172645463325252) + uint64(row)
		for n := range 5000 {
			x = next(x)
			d := chosen(x, weights)
			do(t, l, h, d)
			holds(t, l, h.fresh, h.old)
			once(t, l)
			if t.Failed() {
				t.Fatalf("P19.1: row %d: deed %d: %v", row, n, d)
			}
		}
	}
}

// TestTurns: those that all go Back come as often as each other, whatever new ones come meanwhile.
func TestTurns(t *testing.T) {
	l := made(t, nil, []int{0, 1, 2, 3})
	var came [socks]int
	for n := range 4 * 100 {
		sock, fresh, ok := l.Head()
		if fresh || !ok {
			t.Fatalf("P19.1: Head: %d, %t, %t", sock, fresh, ok)
		}
		came[sock]++
		back(t, l, true)
		if n%7 == 0 {
			push(t, l, 5, true, api.OK)
			head(t, l, 5, true, true)
			drop(t, l, true)
		}
	}
	if came != [socks]int{100, 100, 100, 100} {
		t.Errorf("P19.1: those that came, by socket: %v", came)
	}
}
