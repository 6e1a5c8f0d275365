package ledger_test

import (
	"math"
	"slices"
	"testing"

	"canter/api"
	"canter/ledger"
)

// fates: Accepted, Departed, OverLimit, OverFlow, Horizon, Closed: how many of each.
type fates = [api.Fates]int

var (
	wrongSocks = []int{math.MinInt, math.MinInt + 1, -1 << 32, -api.MaxSocks, -2, -1, api.MaxSocks, api.MaxSocks + 1, 1 << 32, math.MaxInt - 1, math.MaxInt}
	wrongFates = []int{math.MinInt, math.MinInt + 1, -1 << 32, -api.Fates, -2, -1, api.Fates, api.Fates + 1, 1 << 32, math.MaxInt - 1, math.MaxInt}
)

// next: a short rule that tells numbers of all sizes, one from the other.
func next(x uint64) uint64 {
	x ^= x << 13
	x ^= x >> 7
	return x ^ x<<17
}

// all: what All tells.
func all(l *ledger.Ledger) []api.Count { return slices.Collect(l.All()) }

func note(t *testing.T, l *ledger.Ledger, sock, fate int, want api.Errno) {
	t.Helper()
	if err := l.Note(sock, fate); err != want {
		t.Errorf("P7.1: Note(%d, %d): error %d; want %d", sock, fate, err, want)
	}
}

func count(t *testing.T, l *ledger.Ledger, sock int, want api.Count, wantErr api.Errno) {
	t.Helper()
	if c, err := l.Count(sock); c != want || err != wantErr {
		t.Errorf("P7.1: Count(%d): %+v, error %d; want %+v, %d", sock, c, err, want, wantErr)
	}
}

// holds: whether the counts are exactly those of want, which are by rising Sock, and zeros of all others, by every call that tells it.
func holds(t *testing.T, l *ledger.Ledger, want ...api.Count) {
	t.Helper()
	if told := all(l); !slices.Equal(told, want) {
		t.Errorf("P7.1: All: %+v; want %+v", told, want)
	}
	at := 0
	for sock := range api.MaxSocks {
		c := api.Count{Sock: sock}
		if at < len(want) && want[at].Sock == sock {
			c = want[at]
			at++
		}
		count(t, l, sock, c, api.OK)
		if !ledger.Balanced(c) {
			t.Errorf("what follows: %+v is not balanced", c)
		}
	}
	for _, sock := range wrongSocks {
		count(t, l, sock, api.Count{}, api.ErrSock)
	}
}

// three: a ledger of the sockets 0, 4 and 7, and its counts: with one that waits, with none, with two.
func three(t *testing.T) (*ledger.Ledger, []api.Count) {
	t.Helper()
	l := ledger.New()
	for _, d := range [][2]int{
		{7, api.Accepted}, {4, api.Accepted}, {7, api.Accepted}, {0, api.Accepted},
		{4, api.Departed}, {7, api.Accepted}, {7, api.Horizon},
	} {
		note(t, l, d[0], d[1], api.OK)
	}
	return l, []api.Count{
		{Sock: 0, Fates: fates{1}, Queued: 1},
		{Sock: 4, Fates: fates{1, 1}},
		{Sock: 7, Fates: fates{3, 0, 0, 0, 1, 0}, Queued: 2},
	}
}

func TestNew(t *testing.T) {
	l := ledger.New()
	if l == nil {
		t.Fatal("P7.1: New: nil")
	}
	holds(t, l)
}

func TestExample(t *testing.T) {
	l := ledger.New()
	note(t, l, 1, api.Accepted, api.OK)
	if c, err := l.Count(1); c.Queued != 1 || err != api.OK {
		t.Errorf("the example: %+v, error %d; want Queued 1", c, err)
	}
	holds(t, l, api.Count{Sock: 1, Fates: fates{1}, Queued: 1})
}

// TestWrong: what is refused turns nothing; and which error comes first.
func TestWrong(t *testing.T) {
	empty := ledger.New()
	l, want := three(t)
	for _, sock := range wrongSocks {
		for fate := range api.Fates {
			note(t, l, sock, fate, api.ErrSock)
			note(t, empty, sock, fate, api.ErrSock)
		}
		for _, fate := range wrongFates {
			note(t, l, sock, fate, api.ErrSock)
			note(t, empty, sock, fate, api.ErrSock)
		}
	}
	for sock := range api.MaxSocks {
		for _, fate := range wrongFates {
			note(t, l, sock, fate, api.ErrArg)
			note(t, empty, sock, fate, api.ErrArg)
		}
		for fate := api.Departed; fate <= api.Closed; fate++ {
			note(t, empty, sock, fate, api.ErrNone)
			if sock != 0 && sock != 7 { // of those, some wait
				note(t, l, sock, fate, api.ErrNone)
			}
		}
	}
	holds(t, l, want...)
	holds(t, empty)
	note(t, empty, 0, api.Accepted, api.OK)
	note(t, empty, api.MaxSocks-1, api.Accepted, api.OK)
	holds(t, empty, api.Count{Sock: 0, Fates: fates{1}, Queued: 1}, api.Count{Sock: api.MaxSocks - 1, Fates: fates{1}, Queued: 1})
}

// TestEachFate: of each socket, each fate of its own, and none behind it.
func TestEachFate(t *testing.T) {
	for sock := range api.MaxSocks {
		for fate := api.Departed; fate <= api.Closed; fate++ {
			l := ledger.New()
			c := api.Count{Sock: sock}
			for n := 1; n <= 3; n++ {
				note(t, l, sock, api.Accepted, api.OK)
				c.Fates[api.Accepted], c.Queued = n, n
				holds(t, l, c)
			}
			for n := 1; n <= 3; n++ {
				note(t, l, sock, fate, api.OK)
				c.Fates[fate], c.Queued = n, 3-n
				holds(t, l, c)
			}
			note(t, l, sock, fate, api.ErrNone)
			holds(t, l, c)
			note(t, l, sock, api.Accepted, api.OK)
			c.Fates[api.Accepted], c.Queued = 4, 1
			holds(t, l, c)
		}
	}
}

func TestDeeds(t *testing.T) {
	l := ledger.New()
	for row, r := range []struct {
		sock, fate int
		err        api.Errno
		now        api.Count // of the socket
	}{
		{3, api.Departed, api.ErrNone, api.Count{Sock: 3}},
		{3, api.Accepted, api.OK, api.Count{Sock: 3, Fates: fates{1}, Queued: 1}},
		{2, api.Closed, api.ErrNone, api.Count{Sock: 2}}, // another one's do not count
		{3, api.Departed, api.OK, api.Count{Sock: 3, Fates: fates{1, 1}}},
		{3, api.Departed, api.ErrNone, api.Count{Sock: 3, Fates: fates{1, 1}}},
		{0, api.Accepted, api.OK, api.Count{Sock: 0, Fates: fates{1}, Queued: 1}},
		{0, api.Accepted, api.OK, api.Count{Sock: 0, Fates: fates{2}, Queued: 2}},
		{0, api.OverLimit, api.OK, api.Count{Sock: 0, Fates: fates{2, 0, 1}, Queued: 1}},
		{0, api.Accepted, api.OK, api.Count{Sock: 0, Fates: fates{3, 0, 1}, Queued: 2}},
		{0, api.OverFlow, api.OK, api.Count{Sock: 0, Fates: fates{3, 0, 1, 1}, Queued: 1}},
		{0, api.Fates, api.ErrArg, api.Count{Sock: 0, Fates: fates{3, 0, 1, 1}, Queued: 1}},
		{0, -1, api.ErrArg, api.Count{Sock: 0, Fates: fates{3, 0, 1, 1}, Queued: 1}},
		{0, api.Horizon, api.OK, api.Count{Sock: 0, Fates: fates{3, 0, 1, 1, 1}}},
		{0, api.Closed, api.ErrNone, api.Count{Sock: 0, Fates: fates{3, 0, 1, 1, 1}}},
		{7, api.Accepted, api.OK, api.Count{Sock: 7, Fates: fates{1}, Queued: 1}},
		{0, api.Accepted, api.OK, api.Count{Sock: 0, Fates: fates{4, 0, 1, 1, 1}, Queued: 1}},
		{0, api.Closed, api.OK, api.Count{Sock: 0, Fates: fates{4, 0, 1, 1, 1, 1}}},
		{7, api.Closed, api.OK, api.Count{Sock: 7, Fates: fates{1, 0, 0, 0, 0, 1}}},
		{7, api.Horizon, api.ErrNone, api.Count{Sock: 7, Fates: fates{1, 0, 0, 0, 0, 1}}},
	} {
		note(t, l, r.sock, r.fate, r.err)
		count(t, l, r.sock, r.now, api.OK)
		if t.Failed() {
			t.Fatalf("P7.1: row %d", row)
		}
	}
	// All of it has its fate already.
	holds(t, l,
		api.Count{Sock: 0, Fates: fates{4, 0, 1, 1, 1, 1}},
		api.Count{Sock: 3, Fates: fates{1, 1}},
		api.Count{Sock: 7, Fates: fates{1, 0, 0, 0, 0, 1}})
}

// TestEachSet: All tells exactly those of which something was accepted, whichever they are.
func TestEachSet(t *testing.T) {
	for set := range 1 << api.MaxSocks {
		l := ledger.New()
		var want []api.Count
		for sock := api.MaxSocks - 1; sock >= 0; sock-- {
			if set>>sock&1 == 1 {
				note(t, l, sock, api.Accepted, api.OK)
				want = append(want, api.Count{Sock: sock, Fates: fates{1}, Queued: 1})
			}
		}
		slices.Reverse(want)
		holds(t, l, want...)
		for i := range want {
			note(t, l, want[i].Sock, api.Departed, api.OK)
			want[i].Fates[api.Departed], want[i].Queued = 1, 0
		}
		holds(t, l, want...)
	}
}

// TestBreak: All tells no more once yield answered false, and may be ranged over again.
func TestBreak(t *testing.T) {
	l, want := three(t)
	walk := l.All()
	for stop := range want {
		var told []api.Count
		walk(func(c api.Count) bool {
			told = append(told, c)
			return len(told) <= stop
		})
		if !slices.Equal(told, want[:stop+1]) {
			t.Errorf("R10: broken off at %d: %+v; want %+v", stop, told, want[:stop+1])
		}
		told = nil
		for c := range l.All() {
			told = append(told, c)
			if len(told) > stop {
				break
			}
		}
		if !slices.Equal(told, want[:stop+1]) {
			t.Errorf("R10: broken off behind %d: %+v; want %+v", stop, told, want[:stop+1])
		}
		if told = slices.Collect(walk); !slices.Equal(told, want) {
			t.Errorf("R10: ranged over again: %+v; want %+v", told, want)
		}
	}
	holds(t, l, want...)
}

// TestAllTwice: two walks of one ledger, one within the other.
func TestAllTwice(t *testing.T) {
	l, _ := three(t)
	walk := l.All()
	var told [][2]int
	for c := range walk {
		for d := range walk {
			told = append(told, [2]int{c.Sock, d.Sock})
		}
	}
	if want := [][2]int{{0, 0}, {0, 4}, {0, 7}, {4, 0}, {4, 4}, {4, 7}, {7, 0}, {7, 4}, {7, 7}}; !slices.Equal(told, want) {
		t.Errorf("R10: walks of one: %v; want %v", told, want)
	}
}

// TestAllThen: All tells what had become of them as it was called.
func TestAllThen(t *testing.T) {
	l, want := three(t)
	walk, none := l.All(), ledger.New().All()
	var told []api.Count
	for c := range l.All() {
		told = append(told, c)
		for sock := range api.MaxSocks {
			note(t, l, sock, api.Accepted, api.OK)
		}
	}
	if !slices.Equal(told, want) {
		t.Errorf("R2: All, noted meanwhile: %+v; want %+v", told, want)
	}
	if told = slices.Collect(walk); !slices.Equal(told, want) {
		t.Errorf("R2: All, noted behind it: %+v; want %+v", told, want)
	}
	for c := range none {
		t.Errorf("P7.1: All of none: %+v", c)
	}
	if n := len(all(l)); n != api.MaxSocks {
		t.Errorf("P7.1: All: %d; want %d", n, api.MaxSocks)
	}
	l.All()(nil) // R1
}

func TestNil(t *testing.T) {
	var none *ledger.Ledger
	for range 2 {
		for _, sock := range append([]int{0, 1, api.MaxSocks - 1}, wrongSocks...) {
			for fate := range api.Fates {
				note(t, none, sock, fate, api.ErrNil)
			}
			for _, fate := range wrongFates {
				note(t, none, sock, fate, api.ErrNil)
			}
			count(t, none, sock, api.Count{}, api.ErrNil)
		}
		for c := range none.All() {
			t.Errorf("P7.1: All of a nil ledger: %+v", c)
		}
		none.All()(nil) // R1
	}
}

// TestZero: R1: a ledger that New did not make is an empty one.
func TestZero(t *testing.T) {
	l := new(ledger.Ledger)
	holds(t, l)
	note(t, l, 6, api.Accepted, api.OK)
	holds(t, l, api.Count{Sock: 6, Fates: fates{1}, Queued: 1})
}

// TestApart: R2, R3: what is done with one ledger, or with what it told, is not to be seen in another, nor in it.
func TestApart(t *testing.T) {
	a, b := ledger.New(), ledger.New()
	note(t, a, 1, api.Accepted, api.OK)
	holds(t, b)
	note(t, b, 1, api.OverLimit, api.ErrNone)
	note(t, b, 2, api.Accepted, api.OK)
	c, _ := a.Count(1)
	c.Sock, c.Fates[api.Accepted], c.Queued = 5, 9, 9
	walk := a.All()
	for c := range walk {
		c.Sock, c.Fates[api.Accepted], c.Queued = 5, 9, 9
	}
	if told, want := slices.Collect(walk), []api.Count{{Sock: 1, Fates: fates{1}, Queued: 1}}; !slices.Equal(told, want) {
		t.Errorf("R3: All: %+v; want %+v", told, want)
	}
	holds(t, a, api.Count{Sock: 1, Fates: fates{1}, Queued: 1})
	holds(t, b, api.Count{Sock: 2, Fates: fates{1}, Queued: 1})
	holds(t, ledger.New())
}

// wrongNow: which error Note answers, of counts as they are.
func wrongNow(counts []api.Count, sock, fate int) api.Errno {
	switch {
	case sock < 0 || sock > api.MaxSocks-1:
		return api.ErrSock
	case fate < 0 || fate > 5:
		return api.ErrArg
	case fate > 0 && counts[sock].Queued == 0:
		return api.ErrNone
	}
	return api.OK
}

// TestRuns: long runs of Note, of all sockets and fates, and wrong ones in between, held against counts of their own.
func TestRuns(t *testing.T) {
	x := uint64(2718281828459045)
	for run := range 8 {
		l := ledger.New()
		var counts []api.Count
		for sock := range api.MaxSocks {
			counts = append(counts, api.Count{Sock: sock})
		}
		for k := range 2000 {
			x = next(x)
			sock, fate := int(x%10)-1, int(x>>8%8)-1
			// Now more are accepted, now less, so that some wait, and none, again and again.
			if x>>16%10 < 1+4*uint64(k/200%2) {
				fate = api.Accepted
			}
			want := wrongNow(counts, sock, fate)
			if want == api.OK {
				counts[sock].Fates[fate]++
				counts[sock].Queued--
				if fate == api.Accepted {
					counts[sock].Queued += 2
				}
			}
			note(t, l, sock, fate, want)
			var known []api.Count
			for _, c := range counts {
				if c.Fates[api.Accepted] > 0 {
					known = append(known, c)
				}
			}
			holds(t, l, known...)
			if t.Failed() {
				t.Fatalf("P7.1: run %d, deed %d: Note(%d, %d)", run, k, sock, fate)
			}
		}
	}
}
