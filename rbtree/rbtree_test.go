package rbtree_test

import (
	"cmp"
	"math"
	"math/bits"
	"slices"
	"testing"

	"canter/api"
	"canter/rbtree"
)

const most = 1<<64 - 1

// next: a short rule that tells numbers of all sizes, one from the other.
func next(x uint64) uint64 {
	x ^= x << 13
	x ^= x >> 7
	return x ^ x<<17
}

// less: whether a is ahead of b.
func less(a, b api.Key) bool { return a.A < b.A || a.A == b.A && a.B < b.B }

// all: what All tells.
func all(r *rbtree.Tree) []api.Key {
	var l []api.Key
	for k := range r.All() {
		l = append(l, k)
	}
	return l
}

// keys: those with 0, 10, 20, .. of A, n of them.
func keys(n int) []api.Key {
	var l []api.Key
	for i := range n {
		l = append(l, api.Key{A: uint64(i) * 10})
	}
	return l
}

// with: a tree for n keys, into which those are put.
func with(t *testing.T, n int, l ...api.Key) *rbtree.Tree {
	t.Helper()
	r := rbtree.New(n)
	for _, k := range l {
		insert(t, r, k, api.OK)
	}
	return r
}

func insert(t *testing.T, r *rbtree.Tree, k api.Key, want api.Errno) {
	t.Helper()
	if err := r.Insert(k); err != want {
		t.Errorf("P5.1: Insert(%v): error %d; want %d", k, err, want)
	}
}

func remove(t *testing.T, r *rbtree.Tree, k api.Key, want api.Errno) {
	t.Helper()
	if err := r.Delete(k); err != want {
		t.Errorf("P5.1: Delete(%v): error %d; want %d", k, err, want)
	}
}

// low: whether the height is what P5.2 allows, of n keys.
func low(t *testing.T, r *rbtree.Tree, n int) {
	t.Helper()
	h := r.Height()
	if h > 2*bits.Len(uint(n+1)) || (h == 0) != (n == 0) || h < bits.Len(uint(n)) {
		t.Fatalf("P5.2: Height %d of %d keys", h, n)
	}
}

// above: the first of want, which are rising, above k.
func above(want []api.Key, k api.Key) (api.Key, bool) {
	for _, w := range want {
		if less(k, w) {
			return w, true
		}
	}
	return api.Key{}, false
}

// about: k, and keys close to it on either side.
func about(k api.Key) []api.Key {
	return []api.Key{k, {A: k.A, B: k.B + 1}, {A: k.A, B: k.B - 1}, {A: k.A + 1, B: k.B}, {A: k.A - 1, B: k.B}, {A: k.B, B: k.A}}
}

// holds: whether exactly those of want, which are rising, are in the tree, by every call that tells it.
func holds(t *testing.T, r *rbtree.Tree, want ...api.Key) {
	t.Helper()
	if l := all(r); !slices.Equal(l, want) {
		t.Errorf("P5.1: All: %v; want %v", l, want)
	}
	if n := r.Len(); n != len(want) {
		t.Errorf("P5.1: Len: %d; want %d", n, len(want))
	}
	low(t, r, len(want))
	var least api.Key
	if len(want) > 0 {
		least = want[0]
	}
	if k, ok := r.Min(); k != least || ok != (len(want) > 0) {
		t.Errorf("P5.1: Min: %v, %t; in it are %v", k, ok, want)
	}
	ask := []api.Key{{}, {B: most}, {A: most}, {A: most, B: most}, {A: 1, B: 1}}
	for _, k := range want {
		ask = append(ask, about(k)...)
	}
	for _, k := range ask {
		if has := r.Has(k); has != slices.Contains(want, k) {
			t.Errorf("P5.1: Has(%v): %t; in it are %v", k, has, want)
		}
		up, is := above(want, k)
		if n, ok := r.Next(k); n != up || ok != is {
			t.Errorf("P5.1: Next(%v): %v, %t; want %v, %t; in it are %v", k, n, ok, up, is, want)
		}
	}
}

func TestNew(t *testing.T) {
	for row, r := range []struct{ n, keys int }{
		{math.MinInt, 0}, {-api.MaxArena, 0}, {-2, 0}, {-1, 0}, {0, 0}, {1, 1}, {2, 2}, {5, 5}, {100, 100},
		{api.MaxArena - 1, api.MaxArena - 1}, {api.MaxArena, api.MaxArena},
		{api.MaxArena + 1, api.MaxArena}, {2 * api.MaxArena, api.MaxArena}, {1 << 32, api.MaxArena},
		{math.MaxInt - 1, api.MaxArena}, {math.MaxInt, api.MaxArena},
	} {
		tree := rbtree.New(r.n)
		if tree == nil {
			t.Fatalf("P5.1: row %d: New(%d): nil", row, r.n)
		}
		holds(t, tree)
		for i := range r.keys {
			if err := tree.Insert(api.Key{A: uint64(i)}); err != api.OK {
				t.Fatalf("P5.1: row %d: New(%d): the Insert %d: error %d", row, r.n, i, err)
			}
		}
		for range 2 {
			insert(t, tree, api.Key{A: uint64(r.keys)}, api.ErrFull)
			insert(t, tree, api.Key{A: most, B: most}, api.ErrFull)
		}
		if r.keys > 0 {
			insert(t, tree, api.Key{}, api.ErrThere)
			insert(t, tree, api.Key{A: uint64(r.keys - 1)}, api.ErrThere)
		}
		remove(t, tree, api.Key{A: uint64(r.keys)}, api.ErrNone)
		if tree.Len() != r.keys || len(all(tree)) != r.keys {
			t.Errorf("P5.1: row %d: New(%d): %d keys; want %d", row, r.n, tree.Len(), r.keys)
		}
		low(t, tree, r.keys)
	}
}

func TestExample(t *testing.T) {
	r := with(t, 2, api.Key{A: 2, B: 1}, api.Key{A: 1, B: 9})
	if k, ok := r.Min(); k != (api.Key{A: 1, B: 9}) || !ok {
		t.Errorf("P5.1: Min: %v, %t", k, ok)
	}
	holds(t, r, api.Key{A: 1, B: 9}, api.Key{A: 2, B: 1})
}

// edges: keys in order, by A and then by B, with the least and the greatest numbers of each.
func edges() []api.Key {
	var l []api.Key
	for _, a := range []uint64{0, 1, 2, 1<<32 - 1, 1 << 32, 1<<63 - 1, 1 << 63, most - 1, most} {
		for _, b := range []uint64{0, 1, 1<<63 - 1, 1 << 63, most - 1, most} {
			l = append(l, api.Key{A: a, B: b})
		}
	}
	return l
}

func TestOrder(t *testing.T) {
	want := edges()
	for _, turn := range turns() {
		l := slices.Clone(want)
		turn(l)
		r := with(t, len(l), l...)
		holds(t, r, want...)
		for _, k := range l {
			insert(t, r, k, api.ErrThere)
		}
		holds(t, r, want...)
	}
	for _, a := range want {
		for _, b := range want {
			two := []api.Key{a, b}
			if a == b {
				two = two[:1]
			} else if less(b, a) {
				two = []api.Key{b, a}
			}
			r := rbtree.New(2)
			r.Insert(a)
			r.Insert(b)
			holds(t, r, two...)
		}
	}
}

// turns: what puts rising keys in other orders: rising still, falling, and otherwise.
func turns() []func(l []api.Key) {
	return []func(l []api.Key){func([]api.Key) {}, slices.Reverse[[]api.Key], shuffle}
}

// shuffle puts keys in another order, by a short rule.
func shuffle(l []api.Key) {
	x := uint64(len(l)) + 88172645463325252
	for i := len(l) - 1; i > 0; i-- {
		x = next(x)
		j := int(x % uint64(i+1))
		l[i], l[j] = l[j], l[i]
	}
}

// deed: insert of the key A, B, if in; else delete.
type deed struct {
	in   bool
	a, b uint64
	err  api.Errno
	now  []uint64 // then in it: A times 10 and B
}

func TestDeeds(t *testing.T) {
	const in, out = true, false
	for row, r := range []struct {
		n     int
		deeds []deed
	}{
		{0, []deed{
			{in, 1, 1, api.ErrFull, nil}, {out, 1, 1, api.ErrNone, nil}, {in, 0, 0, api.ErrFull, nil},
		}},
		{1, []deed{ // full; what is there is there, also where no more go in
			{out, 1, 1, api.ErrNone, nil}, {in, 1, 1, 0, []uint64{11}}, {in, 1, 1, api.ErrThere, []uint64{11}},
			{in, 1, 2, api.ErrFull, []uint64{11}}, {in, 2, 1, api.ErrFull, []uint64{11}}, {in, 0, 0, api.ErrFull, []uint64{11}},
			{out, 1, 2, api.ErrNone, []uint64{11}}, {out, 2, 1, api.ErrNone, []uint64{11}}, {out, 0, 1, api.ErrNone, []uint64{11}},
			{out, 1, 1, 0, nil}, {out, 1, 1, api.ErrNone, nil}, {in, 0, 0, 0, []uint64{0}}, {in, 0, 0, api.ErrThere, []uint64{0}},
			{out, 0, 0, 0, nil}, {in, 1, 1, 0, []uint64{11}},
		}},
		{3, []deed{ // the same A; deleted and inserted again
			{in, 5, 2, 0, []uint64{52}}, {in, 5, 1, 0, []uint64{51, 52}}, {in, 5, 3, 0, []uint64{51, 52, 53}},
			{in, 5, 4, api.ErrFull, []uint64{51, 52, 53}}, {in, 5, 2, api.ErrThere, []uint64{51, 52, 53}},
			{out, 5, 2, 0, []uint64{51, 53}}, {out, 5, 2, api.ErrNone, []uint64{51, 53}}, {in, 5, 2, 0, []uint64{51, 52, 53}},
			{out, 5, 1, 0, []uint64{52, 53}}, {in, 5, 4, 0, []uint64{52, 53, 54}}, {in, 5, 1, api.ErrFull, []uint64{52, 53, 54}},
		}},
		{4, []deed{ // A counts ahead of B
			{in, 1, 9, 0, []uint64{19}}, {in, 2, 1, 0, []uint64{19, 21}}, {in, 0, 5, 0, []uint64{5, 19, 21}}, {in, 1, 0, 0, []uint64{5, 10, 19, 21}},
			{in, 9, 1, api.ErrFull, []uint64{5, 10, 19, 21}}, {out, 9, 1, api.ErrNone, []uint64{5, 10, 19, 21}}, {out, 1, 2, api.ErrNone, []uint64{5, 10, 19, 21}},
			{out, 1, 9, 0, []uint64{5, 10, 21}}, {out, 0, 5, 0, []uint64{10, 21}}, {out, 1, 0, 0, []uint64{21}}, {out, 2, 1, 0, nil},
		}},
	} {
		tree := rbtree.New(r.n)
		for step, d := range r.deeds {
			var err api.Errno
			if k := (api.Key{A: d.a, B: d.b}); d.in {
				err = tree.Insert(k)
			} else {
				err = tree.Delete(k)
			}
			var now []api.Key
			for _, x := range d.now {
				now = append(now, api.Key{A: x / 10, B: x % 10})
			}
			if err != d.err {
				t.Errorf("P5.1: row %d: deed %d: error %d; want %d", row, step, err, d.err)
			}
			holds(t, tree, now...)
		}
	}
}

// TestDeleteEach: of trees of all small sizes, put in rising, falling, and otherwise, each key goes alone: one without, with one and with two others beneath it, and the top.
func TestDeleteEach(t *testing.T) {
	for n := 1; n <= 20; n++ {
		for _, turn := range turns() {
			for gone := range n {
				want := keys(n)
				l := slices.Clone(want)
				turn(l)
				r := with(t, n, l...)
				k := want[gone]
				remove(t, r, k, api.OK)
				remove(t, r, k, api.ErrNone)
				holds(t, r, slices.Delete(slices.Clone(want), gone, gone+1)...)
				insert(t, r, k, api.OK)
				insert(t, r, api.Key{A: 1, B: 1}, api.ErrFull)
				holds(t, r, want...)
			}
		}
	}
}

// TestEmptied: filled and emptied, in all ways, and filled anew; the height is low behind each deed.
func TestEmptied(t *testing.T) {
	const n = 300
	for _, first := range turns() {
		for _, second := range turns() {
			r := rbtree.New(n)
			for range 2 {
				in, out := keys(n), keys(n)
				first(in)
				second(out)
				for i, k := range in {
					insert(t, r, k, api.OK)
					low(t, r, i+1)
				}
				insert(t, r, api.Key{A: 5}, api.ErrFull)
				if !slices.Equal(all(r), keys(n)) {
					t.Fatalf("P5.1: All: %v", all(r))
				}
				for i, k := range out {
					remove(t, r, k, api.OK)
					low(t, r, n-1-i)
				}
				holds(t, r)
			}
		}
	}
}

// TestLeastGoes: in whatever order keys come, they go in order.
func TestLeastGoes(t *testing.T) {
	for n := range 200 {
		want := keys(n)
		l := slices.Clone(want)
		shuffle(l)
		r := with(t, n, l...)
		for i, w := range want {
			k, ok := r.Min()
			if k != w || !ok {
				t.Fatalf("P5.1: %d keys: the %d to go: %v, %t; want %v", n, i, k, ok, w)
			}
			remove(t, r, k, api.OK)
			low(t, r, n-1-i)
		}
		holds(t, r)
	}
}

// TestLines: as many keys as go in, rising and falling, and all but few of them gone from either end.
func TestLines(t *testing.T) {
	for _, fall := range []bool{false, true} {
		for _, top := range []bool{false, true} {
			r := rbtree.New(api.MaxArena)
			for i := range api.MaxArena {
				k := api.Key{A: 7, B: uint64(i)}
				if fall {
					k.B = uint64(api.MaxArena - 1 - i)
				}
				insert(t, r, k, api.OK)
				low(t, r, i+1)
			}
			for i := range api.MaxArena {
				k := api.Key{A: 7, B: uint64(i)}
				if top {
					k.B = uint64(api.MaxArena - 1 - i)
				}
				remove(t, r, k, api.OK)
				low(t, r, api.MaxArena-1-i)
			}
		}
	}
}

func TestHeight(t *testing.T) {
	for n, want := range []int{0, 1, 2, 2} {
		if h := with(t, 9, keys(n)...).Height(); h != want {
			t.Errorf("P5.2: Height of %d keys: %d; want %d", n, h, want)
		}
	}
	r := with(t, 3, keys(3)...)
	remove(t, r, api.Key{A: 0}, api.OK)
	if h := r.Height(); h != 2 {
		t.Errorf("P5.2: Height of 2 keys: %d; want 2", h)
	}
	remove(t, r, api.Key{A: 10}, api.OK)
	if h := r.Height(); h != 1 {
		t.Errorf("P5.2: Height of 1 key: %d; want 1", h)
	}
	remove(t, r, api.Key{A: 20}, api.OK)
	if h := r.Height(); h != 0 {
		t.Errorf("P5.2: Height of none: %d; want 0", h)
	}
}

// TestRuns holds long runs in whatever order against a plain list of keys in order.
func TestRuns(t *testing.T) {
	for _, c := range []struct {
		n     int
		a, b  uint64 // how many different ones of each
		often uint64 // of 8, Insert
		steps int
	}{
		{1, 2, 1, 4, 500}, {3, 2, 2, 4, 2000}, {10, 20, 1, 4, 4000}, {10, 1, 20, 5, 4000}, {30, 7, 7, 5, 6000},
		{100, 1 << 60, 1, 5, 6000}, {100, 12, 12, 3, 6000}, {400, 30, 30, 6, 8000}, {400, 50, 8, 4, 8000},
	} {
		r, x := rbtree.New(c.n), uint64(c.n)+2463534242
		var want []api.Key
		for step := range c.steps {
			x = next(x)
			k := api.Key{A: x >> 3 % c.a * (most / c.a), B: x >> 33 % c.b}
			at, is := slices.BinarySearchFunc(want, k, func(p, q api.Key) int {
				return cmp.Or(cmp.Compare(p.A, q.A), cmp.Compare(p.B, q.B))
			})
			switch in := x%8 < c.often; {
			case in && is:
				insert(t, r, k, api.ErrThere)
			case in && len(want) == c.n:
				insert(t, r, k, api.ErrFull)
			case in:
				insert(t, r, k, api.OK)
				want = slices.Insert(want, at, k)
			case is:
				remove(t, r, k, api.OK)
				want = slices.Delete(want, at, at+1)
			default:
				remove(t, r, k, api.ErrNone)
			}
			low(t, r, len(want))
			up, more := above(want, k)
			if n, ok := r.Next(k); n != up || ok != more || r.Has(k) != slices.Contains(want, k) || r.Len() != len(want) {
				t.Fatalf("P5.1: %v: step %d: Next(%v): %v, %t; want %v, %t; %d keys; want %d", c, step, k, n, ok, up, more, r.Len(), len(want))
			}
			if step%97 == 0 {
				holds(t, r, want...)
			}
			if t.Failed() {
				t.Fatalf("P5.1: %v: step %d", c, step)
			}
		}
		holds(t, r, want...)
	}
}

// TestBrokenOff: what is ranged over tells no more once it is broken off, and tells all when it is ranged over again.
func TestBrokenOff(t *testing.T) {
	for n := range 18 {
		l := keys(n)
		shuffle(l)
		r := with(t, n, l...)
		walk := r.All()
		for stop := 1; stop <= n; stop++ {
			var told []api.Key
			walk(func(k api.Key) bool {
				told = append(told, k)
				return len(told) < stop
			})
			if !slices.Equal(told, keys(n)[:stop]) {
				t.Errorf("R10: %d keys, broken off at %d: %v", n, stop, told)
			}
		}
		for range 2 {
			var told []api.Key
			for k := range walk {
				told = append(told, k)
			}
			if !slices.Equal(told, keys(n)) {
				t.Errorf("R10: %d keys, ranged over again: %v", n, told)
			}
		}
	}
}

// TestNested: two walks over one tree, one inside the other, with what else only asks.
func TestNested(t *testing.T) {
	r := with(t, 6, keys(6)...)
	var outer []api.Key
	for k := range r.All() {
		outer = append(outer, k)
		var inner []api.Key
		for j := range r.All() {
			if less(k, j) {
				break
			}
			inner = append(inner, j)
		}
		if !slices.Equal(inner, outer) || !r.Has(k) {
			t.Errorf("R10: inside of %v: %v", k, inner)
		}
	}
	if !slices.Equal(outer, keys(6)) {
		t.Errorf("R10: %v", outer)
	}
}

// TestChangedMeanwhile: nothing is promised of the walk, but it ends (R1), and what it tells is there; the tree itself is as ever.
func TestChangedMeanwhile(t *testing.T) {
	for n := range 30 {
		for what, change := range []func(r *rbtree.Tree, k api.Key){
			func(r *rbtree.Tree, k api.Key) { r.Delete(k) },
			func(r *rbtree.Tree, k api.Key) { r.Insert(api.Key{A: k.A, B: k.B + 1}) },
			func(r *rbtree.Tree, k api.Key) { r.Delete(k); r.Insert(api.Key{A: k.A + 1000}) },
			func(r *rbtree.Tree, k api.Key) { r.Delete(k); r.Insert(api.Key{A: k.A, B: k.B - 1}) },
			func(r *rbtree.Tree, k api.Key) { // each comes back as the least one
				m, _ := r.Min()
				r.Delete(k)
				r.Insert(api.Key{A: m.A - 1})
			},
			func(r *rbtree.Tree, k api.Key) {
				for _, other := range all(r) {
					r.Delete(other)
				}
			},
		} {
			r, told := rbtree.New(40), 0
			for _, k := range keys(n) {
				insert(t, r, api.Key{A: k.A + 1<<40}, api.OK)
			}
			for k := range r.All() {
				if told++; told > 1000 {
					t.Fatalf("R1: %d keys, change %d: the walk does not end", n, what)
				}
				if !r.Has(k) {
					t.Errorf("P5.1: %d keys, change %d: %v is told, and is not there", n, what, k)
				}
				change(r, k)
			}
			left := all(r)
			for i := 1; i < len(left); i++ {
				if !less(left[i-1], left[i]) {
					t.Errorf("P5.1: %d keys, change %d: All: %v", n, what, left)
				}
			}
			holds(t, r, left...)
		}
	}
}

func TestNil(t *testing.T) {
	var r *rbtree.Tree
	for _, k := range []api.Key{{}, {A: 1, B: 2}, {A: most, B: most}} {
		insert(t, r, k, api.ErrNil)
		remove(t, r, k, api.ErrNil)
		if n, ok := r.Next(k); r.Has(k) || n != (api.Key{}) || ok {
			t.Errorf("P5.1: a nil tree: Has(%v): %t; Next: %v, %t", k, r.Has(k), n, ok)
		}
	}
	if k, ok := r.Min(); k != (api.Key{}) || ok {
		t.Errorf("P5.1: a nil tree: Min: %v, %t", k, ok)
	}
	if r.Len() != 0 || r.Height() != 0 || len(all(r)) != 0 {
		t.Errorf("P5.1: a nil tree: %d keys, height %d, %v", r.Len(), r.Height(), all(r))
	}
	r.All()(nil)
}

// TestUnmade: a tree that New did not make has room for none; a nil yield is told nothing.
func TestUnmade(t *testing.T) {
	var r rbtree.Tree
	insert(t, &r, api.Key{A: 1}, api.ErrFull)
	remove(t, &r, api.Key{A: 1}, api.ErrNone)
	remove(t, &r, api.Key{}, api.ErrNone)
	holds(t, &r)
	r.All()(nil)
	two := with(t, 2, keys(2)...)
	two.All()(nil)
	holds(t, two, keys(2)...)
}

// TestApart: what is done with one tree changes nothing of another.
func TestApart(t *testing.T) {
	a, b := rbtree.New(5), rbtree.New(5)
	for _, k := range keys(5) {
		insert(t, a, k, api.OK)
		holds(t, b)
	}
	insert(t, b, api.Key{A: 3, B: 3}, api.OK)
	holds(t, a, keys(5)...)
	for _, k := range keys(5) {
		remove(t, a, k, api.OK)
	}
	holds(t, a)
	holds(t, b, api.Key{A: 3, B: 3})
}

// TestSame: the same deeds on two trees are answered the same.
func TestSame(t *testing.T) {
	a, b := rbtree.New(40), rbtree.New(40)
	x := uint64(77)
	for step := range 3000 {
		x = next(x)
		k := api.Key{A: x >> 8 % 20, B: x >> 40 % 4}
		var ea, eb api.Errno
		if x%2 == 0 {
			ea, eb = a.Insert(k), b.Insert(k)
		} else {
			ea, eb = a.Delete(k), b.Delete(k)
		}
		if ea != eb || a.Height() != b.Height() || a.Len() != b.Len() {
			t.Fatalf("R2: step %d: error %d, %d; height %d, %d", step, ea, eb, a.Height(), b.Height())
		}
	}
	holds(t, a, all(b)...)
}
