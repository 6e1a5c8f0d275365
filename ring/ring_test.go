package ring_test

import (
	"math"
	"slices"
	"testing"

	"canter/api"
	"canter/ring"
)

// next: a short rule that tells numbers of all sizes, one from the other.
func next(x uint64) uint64 {
	x ^= x << 13
	x ^= x >> 7
	return x ^ x<<17
}

// all: what All tells, whose places must be 0, 1, ..
func all(t *testing.T, r *ring.Ring) []int {
	t.Helper()
	var l []int
	for i, v := range r.All() {
		if i != len(l) {
			t.Errorf("P6.1: All: the place %d; want %d", i, len(l))
		}
		l = append(l, v)
	}
	return l
}

func push(t *testing.T, r *ring.Ring, v int, want api.Errno) {
	t.Helper()
	if err := r.Push(v); err != want {
		t.Errorf("P6.1: Push(%d): error %d; want %d", v, err, want)
	}
}

func pop(t *testing.T, r *ring.Ring, want int, wantOk bool) {
	t.Helper()
	if v, ok := r.Pop(); v != want || ok != wantOk {
		t.Errorf("P6.1: Pop: %d, %t; want %d, %t", v, ok, want, wantOk)
	}
}

// holds: whether exactly those of want are in the ring, in that order, by every call that tells it.
func holds(t *testing.T, r *ring.Ring, want ...int) {
	t.Helper()
	if n := r.Len(); n != len(want) {
		t.Errorf("P6.1: Len: %d; want %d", n, len(want))
	}
	if l := all(t, r); !slices.Equal(l, want) {
		t.Errorf("P6.1: All: %v; want %v", l, want)
	}
	for i, w := range want {
		if v, ok := r.At(i); v != w || !ok {
			t.Errorf("P6.1: At(%d): %d, %t; want %d, true", i, v, ok, w)
		}
	}
	for _, i := range []int{math.MinInt, math.MinInt + 1, -1 << 32, -len(want), -2, -1, len(want), len(want) + 1, len(want) + api.MaxArena, 1 << 32, math.MaxInt - 1, math.MaxInt} {
		if i == 0 && len(want) > 0 {
			continue
		}
		if v, ok := r.At(i); v != 0 || ok {
			t.Errorf("P6.1: At(%d) of %d: %d, %t; want 0, false", i, len(want), v, ok)
		}
	}
}

// filled: a ring for n, with 1, 2, .. n in it, of which the first one stands behind as many places as were popped ahead.
func filled(t *testing.T, n, popped int) *ring.Ring {
	t.Helper()
	r := ring.New(n)
	for i := range popped {
		push(t, r, -i-1, api.OK)
		pop(t, r, -i-1, true)
	}
	for i := range n {
		push(t, r, i+1, api.OK)
	}
	return r
}

func TestNew(t *testing.T) {
	for row, r := range []struct{ n, room int }{
		{math.MinInt, 0}, {math.MinInt + 1, 0}, {-1 << 32, 0}, {-api.MaxArena, 0}, {-2, 0}, {-1, 0}, {0, 0}, {1, 1}, {2, 2}, {3, 3}, {100, 100},
		{api.MaxArena - 1, api.MaxArena - 1}, {api.MaxArena, api.MaxArena},
		{api.MaxArena + 1, api.MaxArena}, {2 * api.MaxArena, api.MaxArena}, {1 << 32, api.MaxArena},
		{math.MaxInt - 1, api.MaxArena}, {math.MaxInt, api.MaxArena},
	} {
		g := ring.New(r.n)
		if g == nil {
			t.Fatalf("P6.1: row %d: New(%d): nil", row, r.n)
		}
		holds(t, g)
		pop(t, g, 0, false)
		var want []int
		for i := range r.room {
			if err := g.Push(7 * i); err != api.OK {
				t.Fatalf("P6.1: row %d: New(%d): Push %d: error %d", row, r.n, i, err)
			}
			want = append(want, 7*i)
		}
		for range 2 {
			push(t, g, -1, api.ErrFull)
		}
		holds(t, g, want...)
		for i := range r.room {
			pop(t, g, 7*i, true)
		}
		pop(t, g, 0, false)
		if t.Failed() {
			t.Fatalf("P6.1: row %d: New(%d)", row, r.n)
		}
	}
}

func TestExample(t *testing.T) {
	r := ring.New(2)
	push(t, r, 1, api.OK)
	push(t, r, 2, api.OK)
	pop(t, r, 1, true)
	holds(t, r, 2)
}

// deed: a push of v, which is answered with err; or a pop, which answers v and whether err is OK.
type deed struct {
	push bool
	v    int
	err  api.Errno
	now  []int // then in it
}

func TestDeeds(t *testing.T) {
	const in, out = true, false
	const none = api.ErrNone // of a pop: there is none
	for row, r := range []struct {
		n     int
		deeds []deed
	}{
		{3, []deed{ // the places go round twice and more
			{in, 1, 0, []int{1}}, {in, 2, 0, []int{1, 2}}, {out, 1, 0, []int{2}}, {in, 3, 0, []int{2, 3}},
			{in, 4, 0, []int{2, 3, 4}}, {in, 5, api.ErrFull, []int{2, 3, 4}}, {out, 2, 0, []int{3, 4}}, {in, 6, 0, []int{3, 4, 6}},
			{out, 3, 0, []int{4, 6}}, {in, 7, 0, []int{4, 6, 7}}, {out, 4, 0, []int{6, 7}}, {out, 6, 0, []int{7}},
			{in, 8, 0, []int{7, 8}}, {in, 9, 0, []int{7, 8, 9}}, {in, 1, api.ErrFull, []int{7, 8, 9}},
			{out, 7, 0, []int{8, 9}}, {out, 8, 0, []int{9}}, {out, 9, 0, nil}, {out, 0, none, nil}, {in, 5, 0, []int{5}},
		}},
		{2, []deed{ // refused again and again: nothing turns, neither which is next, nor how much room there is
			{out, 0, none, nil}, {out, 0, none, nil}, {in, 1, 0, []int{1}}, {in, 2, 0, []int{1, 2}},
			{in, 3, api.ErrFull, []int{1, 2}}, {in, 4, api.ErrFull, []int{1, 2}}, {in, 5, api.ErrFull, []int{1, 2}},
			{out, 1, 0, []int{2}}, {in, 6, 0, []int{2, 6}}, {in, 7, api.ErrFull, []int{2, 6}}, {out, 2, 0, []int{6}}, {out, 6, 0, nil},
			{out, 0, none, nil}, {out, 0, none, nil}, {out, 0, none, nil}, {in, 8, 0, []int{8}}, {in, 9, 0, []int{8, 9}}, {in, 1, api.ErrFull, []int{8, 9}},
		}},
		{4, []deed{ // the same one more than once, 0, and numbers of all sizes
			{in, 0, 0, []int{0}}, {in, 0, 0, []int{0, 0}}, {in, math.MinInt, 0, []int{0, 0, math.MinInt}},
			{in, math.MaxInt, 0, []int{0, 0, math.MinInt, math.MaxInt}}, {in, 0, api.ErrFull, []int{0, 0, math.MinInt, math.MaxInt}},
			{out, 0, 0, []int{0, math.MinInt, math.MaxInt}}, {out, 0, 0, []int{math.MinInt, math.MaxInt}}, {in, -1, 0, []int{math.MinInt, math.MaxInt, -1}},
			{out, math.MinInt, 0, []int{math.MaxInt, -1}}, {out, math.MaxInt, 0, []int{-1}}, {out, -1, 0, nil}, {out, 0, none, nil},
		}},
		{1, []deed{
			{in, 3, 0, []int{3}}, {in, 4, api.ErrFull, []int{3}}, {out, 3, 0, nil}, {out, 0, none, nil},
			{in, 5, 0, []int{5}}, {in, 5, api.ErrFull, []int{5}}, {out, 5, 0, nil}, {in, 6, 0, []int{6}},
		}},
		{0, []deed{{in, 1, api.ErrFull, nil}, {out, 0, none, nil}, {in, 0, api.ErrFull, nil}, {out, 0, none, nil}}},
	} {
		g := ring.New(r.n)
		for k, d := range r.deeds {
			if d.push {
				push(t, g, d.v, d.err)
			} else {
				pop(t, g, d.v, d.err == api.OK)
			}
			holds(t, g, d.now...)
			if t.Failed() {
				t.Fatalf("P6.1: row %d: deed %d: %v", row, k, d)
			}
		}
	}
}

// TestBreak: All tells no more once yield answered false, and may be ranged over again; wherever the first one stands.
func TestBreak(t *testing.T) {
	for popped := range 6 {
		r := filled(t, 5, popped)
		want := []int{1, 2, 3, 4, 5}
		walk := r.All()
		for stop := range want {
			var told []int
			walk(func(i, v int) bool {
				told = append(told, v)
				return i != stop
			})
			if !slices.Equal(told, want[:stop+1]) {
				t.Errorf("R10: broken off at %d: %v; want %v", stop, told, want[:stop+1])
			}
			told = nil
			for i, v := range r.All() {
				told = append(told, v)
				if i == stop {
					break
				}
			}
			if !slices.Equal(told, want[:stop+1]) {
				t.Errorf("R10: broken off behind %d: %v; want %v", stop, told, want[:stop+1])
			}
			told = nil
			for i, v := range walk {
				if i != len(told) {
					t.Errorf("R10: ranged over again: the place %d; want %d", i, len(told))
				}
				told = append(told, v)
			}
			if !slices.Equal(told, want) {
				t.Errorf("R10: ranged over again: %v; want %v", told, want)
			}
		}
		holds(t, r, want...)
	}
}

// TestAllTwice: two walks of one ring, one within the other.
func TestAllTwice(t *testing.T) {
	r := filled(t, 2, 1)
	walk := r.All()
	var told [][4]int
	for i, v := range walk {
		for k, w := range walk {
			told = append(told, [4]int{i, v, k, w})
		}
	}
	if want := [][4]int{{0, 1, 0, 1}, {0, 1, 1, 2}, {1, 2, 0, 1}, {1, 2, 1, 2}}; !slices.Equal(told, want) {
		t.Errorf("R10: walks of one: %v; want %v", told, want)
	}
}

// TestAllThen: All tells what was in the ring as it was called.
func TestAllThen(t *testing.T) {
	r := filled(t, 3, 2)
	none, three := ring.New(1).All(), r.All()
	n := 0
	for i, v := range r.All() {
		pop(t, r, i+1, true)
		push(t, r, 10*v, api.OK)
		n++
	}
	if n != 3 {
		t.Errorf("R2: All told %d of 3", n)
	}
	holds(t, r, 10, 20, 30)
	for i, v := range three {
		if v != i+1 {
			t.Errorf("R2: All, asked ahead of Pop: %d at %d; want %d", v, i, i+1)
		}
	}
	for i, v := range none {
		t.Errorf("P6.1: All of none: %d, %d", i, v)
	}
	r.All()(nil) // R1
}

func TestNil(t *testing.T) {
	var none *ring.Ring
	for range 2 {
		for _, v := range []int{math.MinInt, -1, 0, 1, math.MaxInt} {
			push(t, none, v, api.ErrNil)
		}
		pop(t, none, 0, false)
		holds(t, none)
		if v, ok := none.At(0); v != 0 || ok {
			t.Errorf("P6.1: a nil ring: At(0): %d, %t", v, ok)
		}
		none.All()(nil)
	}
}

// TestZero: R1: a ring that New did not make is one without room.
func TestZero(t *testing.T) {
	r := new(ring.Ring)
	push(t, r, 1, api.ErrFull)
	pop(t, r, 0, false)
	holds(t, r)
}

// TestApart: R2: what is done with one ring is not to be seen in another.
func TestApart(t *testing.T) {
	a, b := ring.New(3), ring.New(3)
	push(t, a, 1, api.OK)
	push(t, a, 2, api.OK)
	holds(t, b)
	push(t, b, 9, api.OK)
	pop(t, a, 1, true)
	holds(t, a, 2)
	holds(t, b, 9)
	pop(t, b, 9, true)
	holds(t, ring.New(3))
	holds(t, a, 2)
	holds(t, b)
}

// TestRuns: long runs of Push and Pop, whatever their order; what follows: what is pushed is popped in its order.
func TestRuns(t *testing.T) {
	x := uint64(3141592653589793)
	for _, n := range []int{1, 2, 3, 4, 7, 16, 61} {
		r := ring.New(n)
		var want, pushed, popped []int
		for k := range 3000 {
			x = next(x)
			// Now more of the one, now more of the other, so that it is full, and empty, again and again.
			if pushes := 3 + 4*uint64(k/200%2); x%10 < pushes {
				err, wantErr := r.Push(int(x)), api.OK
				if len(want) == n {
					wantErr = api.ErrFull
				} else {
					want, pushed = append(want, int(x)), append(pushed, int(x))
				}
				if err != wantErr {
					t.Fatalf("P6.1: of %d, deed %d: Push: error %d; want %d", n, k, err, wantErr)
				}
			} else {
				v, ok := r.Pop()
				if ok != (len(want) > 0) || ok && v != want[0] || !ok && v != 0 {
					t.Fatalf("P6.1: of %d, deed %d: Pop: %d, %t; in it are %v", n, k, v, ok, want)
				}
				if ok {
					want, popped = want[1:], append(popped, v)
				}
			}
			holds(t, r, want...)
			if t.Failed() {
				t.Fatalf("P6.1: of %d, deed %d", n, k)
			}
		}
		for v, ok := r.Pop(); ok; v, ok = r.Pop() {
			popped = append(popped, v)
		}
		if !slices.Equal(popped, pushed) {
			t.Errorf("of %d: what is popped is not what was pushed, in its order", n)
		}
	}
}
