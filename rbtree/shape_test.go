package rbtree

import (
	"testing"

	"canter/api"
)

// blacks: how many black nodes stand on each way down from at; it fails where the tree is not red-black, or its links do not meet.
func blacks(t *testing.T, r *Tree, at int) int {
	t.Helper()
	if at == none {
		return 0
	}
	n := r.nodes[at]
	for side, b := range n.below {
		if b == none {
			continue
		}
		if r.nodes[b].above != at {
			t.Fatalf("P5.2: node %d stands beneath %d, and tells %d", b, at, r.nodes[b].above)
		}
		if n.red && r.nodes[b].red {
			t.Fatalf("P5.2: node %d is red, and %d beneath it", at, b)
		}
		if o := order(r.nodes[b].key, n.key); side == lower && o >= 0 || side == upper && o <= 0 {
			t.Fatalf("P5.1: %v stands beneath %v on side %d", r.nodes[b].key, n.key, side)
		}
	}
	l, u := blacks(t, r, n.below[lower]), blacks(t, r, n.below[upper])
	if l != u {
		t.Fatalf("P5.2: node %d has %d black ones on a way down, and %d on another", at, l, u)
	}
	if n.red {
		return l
	}
	return l + 1
}

// sound: whether the tree is red-black, and no node that is not in it keeps anything.
func sound(t *testing.T, r *Tree) {
	t.Helper()
	if r.nodes[none] != (node{}) {
		t.Fatalf("P5.1: something stands at none: %v", r.nodes[none])
	}
	if r.nodes[r.top].red || r.nodes[r.top].above != none {
		t.Fatalf("P5.2: the top: %v", r.nodes[r.top])
	}
	blacks(t, r, r.top)
	told := 0
	for range r.All() {
		told++
	}
	if told != r.Len() {
		t.Fatalf("P5.1: All tells %d keys of %d", told, r.Len())
	}
	for at, n := range r.nodes {
		if at != none && !r.places.Has(at-1) && n != (node{}) {
			t.Fatalf("P5.1: node %d is not in the tree, and keeps %v", at, n)
		}
	}
}

func TestShape(t *testing.T) {
	for _, size := range []int{1, 2, 3, 5, 8, 20, 60, 200} {
		r, x := New(size), uint64(size)
		for step := range 4000 {
			x = x*6364136223846793005 + 1442695040888963407
			k := api.Key{A: x >> 40 % uint64(size), B: x >> 33 % 3}
			// Filled, then emptied, over and over, so that all sizes are met.
			if grow := step/(3*size)%2 == 0; (x>>60 < 12) == grow {
				r.Insert(k)
			} else {
				r.Delete(k)
			}
			sound(t, r)
		}
	}
}

// TestShapeOrders: every order in which few keys come, and every order in which they go.
func TestShapeOrders(t *testing.T) {
	const n = 5
	for first := range orders(n) {
		for second := range orders(n) {
			r := New(n)
			for _, a := range first {
				r.Insert(api.Key{A: a})
				sound(t, r)
			}
			for _, a := range second {
				r.Delete(api.Key{A: a})
				sound(t, r)
			}
			if r.Len() != 0 || r.Height() != 0 {
				t.Fatalf("P5.1: in by %v, out by %v: %d keys, height %d", first, second, r.Len(), r.Height())
			}
		}
	}
}

// orders: tells every order of 0, 1, .. n - 1.
func orders(n uint64) func(yield func(l []uint64) bool) {
	return func(yield func(l []uint64) bool) {
		var grow func(l []uint64, left []uint64) bool
		grow = func(l, left []uint64) bool {
			if len(left) == 0 {
				return yield(l)
			}
			for i, a := range left {
				rest := append(append([]uint64{}, left[:i]...), left[i+1:]...)
				if !grow(append(append([]uint64{}, l...), a), rest) {
					return false
				}
			}
			return true
		}
		var all []uint64
		for a := range n {
			all = append(all, a)
		}
		grow(nil, all)
	}
}
