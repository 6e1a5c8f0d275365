package lists_test

import (
	"math"
	"slices"
	"testing"

	"canter/api"
	"canter/lists"
)

// The numbers that the document names stand here by hand, so that a test does not lean on what it tests.
const (
	socks   = 8
	nowhere = 0
	inNew   = 1
	inOld   = 2
)

func TestNumbers(t *testing.T) {
	if api.MaxSocks != socks || api.Nowhere != nowhere || api.InNew != inNew || api.InOld != inOld {
		t.Errorf("P19.1: MaxSocks %d, Nowhere %d, InNew %d, InOld %d", api.MaxSocks, api.Nowhere, api.InNew, api.InOld)
	}
}

// outside: numbers that no socket has.
func outside() []int {
	return []int{math.MinInt, math.MinInt + 1, -1 << 32, -socks, -2, -1, socks, socks + 1, 2 * socks, 1 << 32, math.MaxInt - 1, math.MaxInt}
}

func push(t *testing.T, l *lists.Lists, sock int, fresh bool, want api.Errno) {
	t.Helper()
	if err := l.Push(sock, fresh); err != want {
		t.Errorf("P19.1: Push(%d, %t): error %d; want %d", sock, fresh, err, want)
	}
}

func drop(t *testing.T, l *lists.Lists, want bool) {
	t.Helper()
	if ok := l.Drop(); ok != want {
		t.Errorf("P19.1: Drop: %t; want %t", ok, want)
	}
}

func back(t *testing.T, l *lists.Lists, want bool) {
	t.Helper()
	if ok := l.Back(); ok != want {
		t.Errorf("P19.1: Back: %t; want %t", ok, want)
	}
}

func remove(t *testing.T, l *lists.Lists, sock int, want bool) {
	t.Helper()
	if ok := l.Remove(sock); ok != want {
		t.Errorf("P19.1: Remove(%d): %t; want %t", sock, ok, want)
	}
}

func head(t *testing.T, l *lists.Lists, want int, wantFresh, wantOk bool) {
	t.Helper()
	if sock, fresh, ok := l.Head(); sock != want || fresh != wantFresh || ok != wantOk {
		t.Errorf("P19.1: Head: %d, %t, %t; want %d, %t, %t", sock, fresh, ok, want, wantFresh, wantOk)
	}
}

func place(t *testing.T, l *lists.Lists, sock, want int) {
	t.Helper()
	if p := l.Place(sock); p != want {
		t.Errorf("P19.1: Place(%d): %d; want %d", sock, p, want)
	}
}

// entry: what All tells at once.
type entry struct {
	sock  int
	fresh bool
}

// entries: what All is to tell of those lists.
func entries(fresh, old []int) []entry {
	var e []entry
	for _, sock := range fresh {
		e = append(e, entry{sock, true})
	}
	for _, sock := range old {
		e = append(e, entry{sock, false})
	}
	return e
}

// told: what a function that All answered tells.
func told(walk func(yield func(sock int, fresh bool) bool)) []entry {
	var e []entry
	for sock, fresh := range walk {
		e = append(e, entry{sock, fresh})
	}
	return e
}

// holds: whether exactly those of fresh are in the new list and those of old in the old one, in that order, by every call that tells it, and by each of them twice, since none changes anything.
func holds(t *testing.T, l *lists.Lists, fresh, old []int) {
	t.Helper()
	want := entries(fresh, old)
	for range 2 {
		if e := told(l.All()); !slices.Equal(e, want) {
			t.Errorf("P19.1: All: %v; want %v", e, want)
		}
		if len(want) == 0 {
			head(t, l, 0, false, false)
		} else {
			head(t, l, want[0].sock, want[0].fresh, true)
		}
		for sock := range socks {
			switch {
			case slices.Contains(fresh, sock):
				place(t, l, sock, inNew)
			case slices.Contains(old, sock):
				place(t, l, sock, inOld)
			default:
				place(t, l, sock, nowhere)
			}
		}
		for _, sock := range outside() {
			place(t, l, sock, nowhere)
		}
	}
}

// made: lists with those in them, by Push alone.
func made(t *testing.T, fresh, old []int) *lists.Lists {
	t.Helper()
	l := lists.New()
	for _, sock := range old {
		push(t, l, sock, false, api.OK)
	}
	for _, sock := range fresh {
		push(t, l, sock, true, api.OK)
	}
	holds(t, l, fresh, old)
	return l
}

func TestExample(t *testing.T) {
	l := lists.New()
	push(t, l, 1, false, api.OK)
	push(t, l, 2, true, api.OK)
	head(t, l, 2, true, true)
	holds(t, l, []int{2}, []int{1})
}

func TestNew(t *testing.T) {
	l := lists.New()
	if l == nil {
		t.Fatal("P19.1: New: nil")
	}
	holds(t, l, nil, nil)
	push(t, l, 3, true, api.OK)
	holds(t, lists.New(), nil, nil)
	holds(t, l, []int{3}, nil)
}

// TestZero: lists that New did not make are empty ones.
func TestZero(t *testing.T) {
	var l lists.Lists
	holds(t, &l, nil, nil)
	drop(t, &l, false)
	back(t, &l, false)
	remove(t, &l, 0, false)
	push(t, &l, 0, false, api.OK)
	push(t, &l, 7, true, api.OK)
	holds(t, &l, []int{7}, []int{0})
}

func TestNil(t *testing.T) {
	var l *lists.Lists
	// ErrNil counts ahead of ErrSock.
	for _, sock := range append(outside(), 0, 1, socks-1) {
		for _, fresh := range []bool{false, true} {
			push(t, l, sock, fresh, api.ErrNil)
		}
		remove(t, l, sock, false)
	}
	drop(t, l, false)
	back(t, l, false)
	holds(t, l, nil, nil)
}

// TestOne: each socket alone, in either list, from beginning to end.
func TestOne(t *testing.T) {
	for sock := range socks {
		for _, fresh := range []bool{false, true} {
			one, none := []int{sock}, []int(nil)
			if !fresh {
				one, none = none, one
			}
			drop(t, made(t, one, none), true)
			l := made(t, one, none)
			back(t, l, true)
			holds(t, l, nil, []int{sock})
			back(t, l, true)
			holds(t, l, nil, []int{sock})
			remove(t, l, sock, true)
			holds(t, l, nil, nil)
			remove(t, l, sock, false)
			drop(t, l, false)
			back(t, l, false)
			holds(t, l, nil, nil)
		}
	}
}

func TestPushOutside(t *testing.T) {
	for _, r := range []struct{ fresh, old []int }{
		{nil, nil}, {[]int{0}, nil}, {nil, []int{7}}, {[]int{7, 1}, []int{0, 2}}, {[]int{0, 1, 2, 3}, []int{4, 5, 6, 7}},
	} {
		l := made(t, r.fresh, r.old)
		for _, sock := range outside() {
			push(t, l, sock, true, api.ErrSock)
			push(t, l, sock, false, api.ErrSock)
		}
		holds(t, l, r.fresh, r.old)
	}
}

// TestPushThere: whichever list it is in, wherever it stands there, and whichever one it is to go into.
func TestPushThere(t *testing.T) {
	for _, r := range []struct{ fresh, old []int }{
		{[]int{0}, nil}, {nil, []int{0}}, {[]int{7}, nil}, {nil, []int{7}},
		{[]int{3}, []int{5}}, {[]int{2, 0, 6}, []int{7, 1, 4}}, {[]int{7, 6, 5, 4, 3, 2, 1, 0}, nil}, {nil, []int{7, 6, 5, 4, 3, 2, 1, 0}},
	} {
		l := made(t, r.fresh, r.old)
		for _, sock := range append(slices.Clone(r.fresh), r.old...) {
			push(t, l, sock, true, api.ErrThere)
			push(t, l, sock, false, api.ErrThere)
		}
		holds(t, l, r.fresh, r.old)
	}
}

// TestPushBehind: each goes behind all of its own list, whatever is in the other.
func TestPushBehind(t *testing.T) {
	l := lists.New()
	for _, r := range []struct {
		sock  int
		fresh bool
		news  []int
		olds  []int
	}{
		{4, false, nil, []int{4}},
		{7, true, []int{7}, []int{4}},
		{0, false, []int{7}, []int{4, 0}},
		{2, true, []int{7, 2}, []int{4, 0}},
		{5, true, []int{7, 2, 5}, []int{4, 0}},
		{6, false, []int{7, 2, 5}, []int{4, 0, 6}},
		{1, true, []int{7, 2, 5, 1}, []int{4, 0, 6}},
		{3, false, []int{7, 2, 5, 1}, []int{4, 0, 6, 3}},
	} {
		push(t, l, r.sock, r.fresh, api.OK)
		holds(t, l, r.news, r.olds)
	}
}

// TestPushAll: all sockets, each into either list, as a number's bits say; rising and falling.
func TestPushAll(t *testing.T) {
	for bits := range 1 << socks {
		for _, turn := range []int{0, socks - 1} {
			l := lists.New()
			var fresh, old []int
			for i := range socks {
				sock := i ^ turn
				isFresh := bits>>sock&1 == 1
				push(t, l, sock, isFresh, api.OK)
				if isFresh {
					fresh = append(fresh, sock)
				} else {
					old = append(old, sock)
				}
			}
			holds(t, l, fresh, old)
			for sock := range socks {
				push(t, l, sock, bits>>sock&1 == 0, api.ErrThere)
			}
			if t.Failed() {
				t.Fatalf("P19.1: new ones by the bits of %d", bits)
			}
		}
	}
}

func TestDrop(t *testing.T) {
	l := made(t, []int{3, 0}, []int{7, 1})
	drop(t, l, true)
	holds(t, l, []int{0}, []int{7, 1})
	drop(t, l, true)
	holds(t, l, nil, []int{7, 1})
	drop(t, l, true)
	holds(t, l, nil, []int{1})
	drop(t, l, true)
	holds(t, l, nil, nil)
	for range 2 {
		drop(t, l, false)
		holds(t, l, nil, nil)
	}
}

// TestDropPush: what was dropped may be pushed again, into either list.
func TestDropPush(t *testing.T) {
	l := made(t, []int{3}, []int{5})
	drop(t, l, true)
	push(t, l, 3, true, api.OK)
	holds(t, l, []int{3}, []int{5})
	drop(t, l, true)
	push(t, l, 3, false, api.OK)
	holds(t, l, nil, []int{5, 3})
	drop(t, l, true)
	push(t, l, 5, false, api.OK)
	holds(t, l, nil, []int{3, 5})
	drop(t, l, true)
	push(t, l, 3, true, api.OK)
	holds(t, l, []int{3}, []int{5})
}

func TestBack(t *testing.T) {
	l := made(t, []int{3, 0}, []int{7, 1})
	for _, r := range []struct{ fresh, old []int }{
		{[]int{0}, []int{7, 1, 3}},
		{nil, []int{7, 1, 3, 0}},
		{nil, []int{1, 3, 0, 7}},
		{nil, []int{3, 0, 7, 1}},
		{nil, []int{0, 7, 1, 3}},
		{nil, []int{7, 1, 3, 0}},
	} {
		back(t, l, true)
		holds(t, l, r.fresh, r.old)
	}
}

// TestBackTurns: again and again, all come in turn, wherever each began.
func TestBackTurns(t *testing.T) {
	for fresh := range socks + 1 {
		for n := fresh; n <= socks; n++ {
			var all []int
			for i := range n {
				all = append(all, (3*i+2)%socks)
			}
			l := made(t, all[:fresh], all[fresh:])
			for turn := range 4 * n {
				head(t, l, all[turn%n], turn < fresh, true)
				back(t, l, true)
				place(t, l, all[turn%n], inOld)
			}
			holds(t, l, nil, all)
		}
	}
}

// TestBackFull: with all sockets in, none is lost.
func TestBackFull(t *testing.T) {
	l := made(t, []int{0, 1, 2, 3, 4, 5, 6, 7}, nil)
	for n := range socks {
		back(t, l, true)
		var fresh, old []int
		for sock := range socks {
			if sock > n {
				fresh = append(fresh, sock)
			} else {
				old = append(old, sock)
			}
		}
		holds(t, l, fresh, old)
	}
}

func TestRemove(t *testing.T) {
	for row, r := range []struct {
		sock       int
		ok         bool
		fresh, old []int
	}{
		{3, true, []int{0, 6, 4}, []int{7, 1, 2, 5}}, // the first one of the new list
		{0, true, []int{3, 6, 4}, []int{7, 1, 2, 5}}, // one in its middle
		{6, true, []int{3, 0, 4}, []int{7, 1, 2, 5}},
		{4, true, []int{3, 0, 6}, []int{7, 1, 2, 5}}, // its last one
		{7, true, []int{3, 0, 6, 4}, []int{1, 2, 5}}, // the first one of the old list
		{1, true, []int{3, 0, 6, 4}, []int{7, 2, 5}}, // one in its middle
		{2, true, []int{3, 0, 6, 4}, []int{7, 1, 5}},
		{5, true, []int{3, 0, 6, 4}, []int{7, 1, 2}},     // its last one
		{8, false, []int{3, 0, 6, 4}, []int{7, 1, 2, 5}}, // no socket
	} {
		l := made(t, []int{3, 0, 6, 4}, []int{7, 1, 2, 5})
		remove(t, l, r.sock, r.ok)
		holds(t, l, r.fresh, r.old)
		remove(t, l, r.sock, false)
		holds(t, l, r.fresh, r.old)
		if r.ok {
			push(t, l, r.sock, true, api.OK)
			holds(t, l, append(r.fresh, r.sock), r.old)
			remove(t, l, r.sock, true)
			push(t, l, r.sock, false, api.OK)
			holds(t, l, r.fresh, append(r.old, r.sock))
		}
		if t.Failed() {
			t.Fatalf("P19.1: row %d", row)
		}
	}
}

// TestRemoveOne: the only one of either list, or of both.
func TestRemoveOne(t *testing.T) {
	l := made(t, []int{2}, []int{6})
	remove(t, l, 2, true)
	holds(t, l, nil, []int{6})
	remove(t, l, 6, true)
	holds(t, l, nil, nil)
	l = made(t, []int{2}, []int{6})
	remove(t, l, 6, true)
	holds(t, l, []int{2}, nil)
	remove(t, l, 2, true)
	holds(t, l, nil, nil)
}

// TestRemoveNone: one that is in none now, one that never was, and none that is a socket.
func TestRemoveNone(t *testing.T) {
	for _, r := range []struct{ fresh, old []int }{
		{nil, nil}, {[]int{0}, nil}, {nil, []int{7}}, {[]int{7, 1}, []int{0, 2}}, {nil, []int{0, 2, 7, 1}}, {[]int{0, 2, 7, 1}, nil},
	} {
		l := made(t, r.fresh, r.old)
		push(t, l, 5, true, api.OK)
		remove(t, l, 5, true)
		for _, sock := range append(outside(), 3, 4, 5, 6) {
			remove(t, l, sock, false)
		}
		holds(t, l, r.fresh, r.old)
	}
}

// TestRemoveAll: all, one by one, from each end and from the middle.
func TestRemoveAll(t *testing.T) {
	for _, order := range [][]int{{0, 1, 2, 3, 4, 5, 6, 7}, {7, 6, 5, 4, 3, 2, 1, 0}, {4, 3, 5, 2, 6, 1, 7, 0}, {0, 4, 1, 5, 2, 6, 3, 7}} {
		for fresh := range socks + 1 {
			in := []int{0, 1, 2, 3, 4, 5, 6, 7}
			news, olds := in[:fresh], in[fresh:]
			l := made(t, news, olds)
			for _, sock := range order {
				is := func(s int) bool { return s == sock }
				remove(t, l, sock, true)
				news, olds = slices.DeleteFunc(slices.Clone(news), is), slices.DeleteFunc(slices.Clone(olds), is)
				holds(t, l, news, olds)
			}
		}
	}
}
