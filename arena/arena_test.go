package arena_test

import (
	"math"
	"slices"
	"testing"

	"canter/api"
	"canter/arena"
)

// next: a short rule that tells numbers of all sizes, one from the other.
func next(x uint64) uint64 {
	x ^= x << 13
	x ^= x >> 7
	return x ^ x<<17
}

// all: what All tells.
func all(a *arena.Arena) []int { return slices.Collect(a.All()) }

// upTo: 0, 1, .. n - 1.
func upTo(n int) []int {
	var l []int
	for i := range n {
		l = append(l, i)
	}
	return l
}

// filled: an arena of n places, of which all are given out.
func filled(t *testing.T, n int) *arena.Arena {
	t.Helper()
	a := arena.New(n)
	for want := range n {
		get(t, a, want, api.OK)
	}
	return a
}

func get(t *testing.T, a *arena.Arena, want int, wantErr api.Errno) {
	t.Helper()
	if i, err := a.Get(); i != want || err != wantErr {
		t.Errorf("P4.1: Get: %d, error %d; want %d, %d", i, err, want, wantErr)
	}
}

func free(t *testing.T, a *arena.Arena, i int, wantErr api.Errno) {
	t.Helper()
	if err := a.Free(i); err != wantErr {
		t.Errorf("P4.1: Free(%d): error %d; want %d", i, err, wantErr)
	}
}

// holds: whether exactly those of want, which are rising, are given out, by every call that tells it.
func holds(t *testing.T, a *arena.Arena, want ...int) {
	t.Helper()
	if l := all(a); !slices.Equal(l, want) {
		t.Errorf("P4.1: All: %v; want %v", l, want)
	}
	if n := a.Used(); n != len(want) {
		t.Errorf("P4.1: Used: %d; want %d", n, len(want))
	}
	for i := -3; i < 20; i++ {
		if has := a.Has(i); has != slices.Contains(want, i) {
			t.Errorf("P4.1: Has(%d): %t; given out are %v", i, has, want)
		}
	}
}

func TestNew(t *testing.T) {
	for row, r := range []struct{ n, places int }{
		{math.MinInt, 0}, {-api.MaxArena, 0}, {-2, 0}, {-1, 0}, {0, 0}, {1, 1}, {2, 2}, {5, 5}, {100, 100},
		{api.MaxArena - 1, api.MaxArena - 1}, {api.MaxArena, api.MaxArena},
		{api.MaxArena + 1, api.MaxArena}, {2 * api.MaxArena, api.MaxArena}, {1 << 32, api.MaxArena},
		{math.MaxInt - 1, api.MaxArena}, {math.MaxInt, api.MaxArena},
	} {
		a := arena.New(r.n)
		if a == nil {
			t.Fatalf("P4.1: row %d: New(%d): nil", row, r.n)
		}
		if a.Used() != 0 || len(all(a)) != 0 || a.Has(0) {
			t.Errorf("P4.1: row %d: New(%d): given out are %v, %d", row, r.n, all(a), a.Used())
		}
		free(t, a, r.places, api.ErrArg)
		if r.places > 0 {
			free(t, a, 0, api.ErrNone)
			free(t, a, r.places-1, api.ErrNone)
		}
		for want := range r.places {
			if i, err := a.Get(); i != want || err != api.OK {
				t.Fatalf("P4.1: row %d: New(%d): Get %d: %d, error %d", row, r.n, want, i, err)
			}
		}
		for range 2 {
			if i, err := a.Get(); i != 0 || err != api.ErrFull {
				t.Errorf("P4.1: row %d: New(%d): Get behind the last: %d, error %d; want 0, %d", row, r.n, i, err, api.ErrFull)
			}
		}
		if a.Used() != r.places || !slices.Equal(all(a), upTo(r.places)) {
			t.Errorf("P4.1: row %d: New(%d): %d given out; want %d", row, r.n, a.Used(), r.places)
		}
		free(t, a, r.places, api.ErrArg)
		free(t, a, r.places+1, api.ErrArg)
	}
}

func TestExample(t *testing.T) {
	a := arena.New(2)
	get(t, a, 0, api.OK)
	get(t, a, 1, api.OK)
	free(t, a, 0, api.OK)
	get(t, a, 0, api.OK)
	get(t, a, 0, api.ErrFull)
}

// deed: free, if get is false, of the place i; else get, which answers i.
type deed struct {
	get bool
	i   int
	err api.Errno
	now []int // then given out
}

func TestDeeds(t *testing.T) {
	const g, f = true, false
	for row, r := range []struct {
		n     int
		deeds []deed
	}{
		{3, []deed{ // one freed at a time, and got again
			{g, 0, 0, []int{0}}, {f, 0, 0, nil}, {g, 0, 0, []int{0}}, {f, 0, 0, nil}, {f, 0, api.ErrNone, nil},
			{g, 0, 0, []int{0}}, {g, 1, 0, []int{0, 1}}, {f, 0, 0, []int{1}}, {g, 0, 0, []int{0, 1}},
		}},
		{5, []deed{ // several freed: the last one first, and only then a new one
			{g, 0, 0, []int{0}}, {g, 1, 0, []int{0, 1}}, {g, 2, 0, []int{0, 1, 2}}, {g, 3, 0, []int{0, 1, 2, 3}},
			{f, 2, 0, []int{0, 1, 3}}, {f, 0, 0, []int{1, 3}}, {f, 3, 0, []int{1}},
			{g, 3, 0, []int{1, 3}}, {g, 0, 0, []int{0, 1, 3}}, {g, 2, 0, []int{0, 1, 2, 3}}, {g, 4, 0, []int{0, 1, 2, 3, 4}},
			{g, 0, api.ErrFull, []int{0, 1, 2, 3, 4}},
		}},
		{4, []deed{ // freed ahead of others, got and freed between: what was given out since is not the last one any more
			{g, 0, 0, []int{0}}, {g, 1, 0, []int{0, 1}}, {g, 2, 0, []int{0, 1, 2}},
			{f, 0, 0, []int{1, 2}}, {f, 1, 0, []int{2}}, {g, 1, 0, []int{1, 2}}, {f, 2, 0, []int{1}},
			{g, 2, 0, []int{1, 2}}, {g, 0, 0, []int{0, 1, 2}}, {g, 3, 0, []int{0, 1, 2, 3}},
		}},
		{4, []deed{ // all freed, from the first to the last
			{g, 0, 0, []int{0}}, {g, 1, 0, []int{0, 1}}, {g, 2, 0, []int{0, 1, 2}}, {g, 3, 0, []int{0, 1, 2, 3}},
			{f, 0, 0, []int{1, 2, 3}}, {f, 1, 0, []int{2, 3}}, {f, 2, 0, []int{3}}, {f, 3, 0, nil},
			{g, 3, 0, []int{3}}, {g, 2, 0, []int{2, 3}}, {g, 1, 0, []int{1, 2, 3}}, {g, 0, 0, []int{0, 1, 2, 3}},
			{g, 0, api.ErrFull, []int{0, 1, 2, 3}},
		}},
		{3, []deed{ // what is refused changes nothing: neither what is given out, nor which place is next
			{f, 0, api.ErrNone, nil}, {f, -1, api.ErrArg, nil}, {f, 3, api.ErrArg, nil}, {f, 2, api.ErrNone, nil},
			{g, 0, 0, []int{0}}, {f, 1, api.ErrNone, []int{0}}, {g, 1, 0, []int{0, 1}}, {g, 2, 0, []int{0, 1, 2}},
			{g, 0, api.ErrFull, []int{0, 1, 2}}, {f, 1, 0, []int{0, 2}}, {f, 0, 0, []int{2}},
			{f, 1, api.ErrNone, []int{2}}, {f, 3, api.ErrArg, []int{2}}, {f, 0, api.ErrNone, []int{2}},
			{g, 0, 0, []int{0, 2}}, {g, 1, 0, []int{0, 1, 2}}, {g, 0, api.ErrFull, []int{0, 1, 2}},
			{f, 2, 0, []int{0, 1}}, {g, 2, 0, []int{0, 1, 2}},
		}},
		{1, []deed{
			{g, 0, 0, []int{0}}, {g, 0, api.ErrFull, []int{0}}, {f, 1, api.ErrArg, []int{0}}, {f, 0, 0, nil},
			{f, 0, api.ErrNone, nil}, {g, 0, 0, []int{0}}, {g, 0, api.ErrFull, []int{0}},
		}},
		{0, []deed{{g, 0, api.ErrFull, nil}, {f, 0, api.ErrArg, nil}, {f, -1, api.ErrArg, nil}, {g, 0, api.ErrFull, nil}}},
	} {
		a := arena.New(r.n)
		for _, d := range r.deeds {
			if d.get {
				get(t, a, d.i, d.err)
			} else {
				free(t, a, d.i, d.err)
			}
			holds(t, a, d.now...)
			if t.Failed() {
				t.Fatalf("P4.1: row %d: at %v", row, d)
			}
		}
	}
}

// TestNoPlace: what is no place is neither there nor freed, whatever is given out.
func TestNoPlace(t *testing.T) {
	for _, n := range []int{0, 1, 7, api.MaxArena} {
		for _, a := range []*arena.Arena{arena.New(n), filled(t, n)} {
			used := a.Used()
			for _, i := range []int{math.MinInt, math.MinInt + 1, -1 << 32, -n - 1, -2, -1, n, n + 1, api.MaxArena, 1 << 32, 1<<32 + 1, math.MaxInt - 1, math.MaxInt} {
				free(t, a, i, api.ErrArg)
				if a.Has(i) {
					t.Errorf("P4.1: Has(%d) of %d places", i, n)
				}
			}
			if a.Used() != used || len(all(a)) != used {
				t.Errorf("R4: %d given out behind what was refused; want %d", a.Used(), used)
			}
		}
	}
}

// TestBreak: All tells no more once yield answered false, and may be ranged over again.
func TestBreak(t *testing.T) {
	a := filled(t, 8)
	for _, i := range []int{0, 3, 4, 7} {
		free(t, a, i, api.OK)
	}
	want := []int{1, 2, 5, 6}
	walk := a.All()
	for stop := range want {
		var told []int
		walk(func(i int) bool {
			told = append(told, i)
			return i != want[stop]
		})
		if !slices.Equal(told, want[:stop+1]) {
			t.Errorf("R10: broken off at %d: %v; want %v", want[stop], told, want[:stop+1])
		}
		told = nil
		for i := range a.All() {
			told = append(told, i)
			if len(told) == stop+1 {
				break
			}
		}
		if !slices.Equal(told, want[:stop+1]) {
			t.Errorf("R10: broken off behind %d: %v; want %v", stop+1, told, want[:stop+1])
		}
		if l := slices.Collect(walk); !slices.Equal(l, want) {
			t.Errorf("R10: ranged over again: %v; want %v", l, want)
		}
	}
	holds(t, a, want...)
}

// TestAllTwice: two walks of one arena, one within the other.
func TestAllTwice(t *testing.T) {
	a := filled(t, 3)
	walk := a.All()
	var pairs [][2]int
	for i := range walk {
		for k := range walk {
			pairs = append(pairs, [2]int{i, k})
		}
	}
	if want := [][2]int{{0, 0}, {0, 1}, {0, 2}, {1, 0}, {1, 1}, {1, 2}, {2, 0}, {2, 1}, {2, 2}}; !slices.Equal(pairs, want) {
		t.Errorf("R10: walks of one: %v; want %v", pairs, want)
	}
}

// TestAllThen: All tells what was given out as it was called.
func TestAllThen(t *testing.T) {
	a := filled(t, 3)
	none, three := arena.New(1).All(), a.All()
	for i := range a.All() {
		free(t, a, i, api.OK)
	}
	holds(t, a)
	if l := slices.Collect(three); !slices.Equal(l, []int{0, 1, 2}) {
		t.Errorf("R2: All, asked ahead of Free: %v; want [0 1 2]", l)
	}
	get(t, a, 2, api.OK)
	for i := range a.All() {
		if i != 2 {
			t.Errorf("R2: All tells %d, which was given out behind it", i)
		}
		get(t, a, 1, api.OK)
	}
	holds(t, a, 1, 2)
	if l := slices.Collect(none); len(l) != 0 {
		t.Errorf("P4.1: All of none: %v", l)
	}
	a.All()(nil) // R1
}

func TestNil(t *testing.T) {
	var none *arena.Arena
	for range 2 {
		get(t, none, 0, api.ErrNil)
		for _, i := range []int{math.MinInt, -1, 0, 1, api.MaxArena, math.MaxInt} {
			free(t, none, i, api.ErrNil) // ErrNil is named ahead of ErrArg
			if none.Has(i) {
				t.Errorf("P4.1: a nil arena has %d", i)
			}
		}
		if n := none.Used(); n != 0 {
			t.Errorf("P4.1: a nil arena: Used: %d; want 0", n)
		}
		if l := all(none); len(l) != 0 {
			t.Errorf("P4.1: a nil arena: All: %v; want none", l)
		}
		none.All()(nil)
	}
}

// TestZero: R1: an arena that New did not make is one without a place.
func TestZero(t *testing.T) {
	a := new(arena.Arena)
	get(t, a, 0, api.ErrFull)
	free(t, a, 0, api.ErrArg)
	holds(t, a)
}

// TestApart: R2: what is done with one arena is not to be seen in another.
func TestApart(t *testing.T) {
	a, b := arena.New(3), arena.New(3)
	get(t, a, 0, api.OK)
	get(t, a, 1, api.OK)
	holds(t, b)
	get(t, b, 0, api.OK)
	free(t, a, 0, api.OK)
	holds(t, a, 1)
	holds(t, b, 0)
	get(t, b, 1, api.OK)
	get(t, a, 0, api.OK)
	c := arena.New(3)
	holds(t, c)
	get(t, c, 0, api.OK)
	holds(t, a, 0, 1)
	holds(t, b, 0, 1)
}

// model: a plain count of what is given out: when each place was freed, by the number of the deed (0: it never was given out), and which are out.
type model struct {
	freed []int
	out   []bool
	deeds int
}

func (m *model) used() int {
	n := 0
	for _, out := range m.out {
		if out {
			n++
		}
	}
	return n
}

// get: the one of those that are not out which was freed last; the least one, if none of them ever was.
func (m *model) get() (int, api.Errno) {
	m.deeds++
	best := -1
	for i, out := range m.out {
		if !out && (best < 0 || m.freed[i] > m.freed[best]) {
			best = i
		}
	}
	if best < 0 {
		return 0, api.ErrFull
	}
	m.out[best] = true
	return best, api.OK
}

func (m *model) free(i int) api.Errno {
	m.deeds++
	switch {
	case i < 0 || i >= len(m.out):
		return api.ErrArg
	case !m.out[i]:
		return api.ErrNone
	}
	m.out[i], m.freed[i] = false, m.deeds
	return api.OK
}

// TestRuns: long runs of Get and Free, whatever their order; what follows: no place is given out twice at once.
func TestRuns(t *testing.T) {
	x := uint64(2718281828459045)
	for _, n := range []int{1, 2, 3, 8, 33, 200} {
		a := arena.New(n)
		m := &model{freed: make([]int, n), out: make([]bool, n)}
		for k := range 4000 {
			x = next(x)
			// Now more of the one, now more of the other, so that it is full, and empty, again and again.
			if gets := 3 + 4*uint64(k/250%2); x%10 < gets {
				was := slices.Clone(m.out)
				want, wantErr := m.get()
				i, err := a.Get()
				if i != want || err != wantErr {
					t.Fatalf("P4.1: of %d, deed %d: Get: %d, error %d; want %d, %d", n, k, i, err, want, wantErr)
				}
				if err == api.OK && was[i] {
					t.Fatalf("of %d, deed %d: %d is given out twice at once", n, k, i)
				}
			} else {
				i := int(x>>8%uint64(n+2)) - 1
				if wantErr, err := m.free(i), a.Free(i); err != wantErr {
					t.Fatalf("P4.1: of %d, deed %d: Free(%d): error %d; want %d", n, k, i, err, wantErr)
				}
			}
			same(t, a, m)
		}
	}
}

// same: whether an arena tells what the model does.
func same(t *testing.T, a *arena.Arena, m *model) {
	t.Helper()
	if a.Used() != m.used() {
		t.Fatalf("P4.1: Used: %d; want %d", a.Used(), m.used())
	}
	var want []int
	for i, out := range m.out {
		if out {
			want = append(want, i)
		}
		if a.Has(i) != out {
			t.Fatalf("P4.1: Has(%d): %t; want %t", i, !out, out)
		}
	}
	if l := all(a); !slices.Equal(l, want) {
		t.Fatalf("P4.1: All: %v; want %v", l, want)
	}
}
