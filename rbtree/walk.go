package rbtree

import (
	"cmp"

	"canter/api"
)

// order: below 0, if a is ahead of b; above 0, if it is behind it; 0, if they are the same.
func order(a, b api.Key) int {
	return cmp.Or(cmp.Compare(a.A, b.A), cmp.Compare(a.B, b.B))
}

// find: the node of k, or none; then the one beneath which it would stand, and on which side (none and lower: it would be the top).
func (t *Tree) find(k api.Key) (at, above, side int) {
	at = t.top
walk:
	for at != none {
		switch o := order(k, t.nodes[at].key); {
		case o == 0:
			break walk
		case o < 0:
			side = lower
		default:
			side = upper
		}
		above, at = at, t.nodes[at].below[side]
	}
	return at, above, side
}

// key: that of a node; false of none.
func (t *Tree) key(at int) (api.Key, bool) {
	if at == none {
		return api.Key{}, false
	}
	return t.nodes[at].key, true
}

// least: the node with the least key of all from at down; none of none.
func (t *Tree) least(at int) int {
	for at != none && t.nodes[at].below[lower] != none {
		at = t.nodes[at].below[lower]
	}
	return at
}

// next: the node with the least key above that of at, or none.
func (t *Tree) next(at int) int {
	if right := t.nodes[at].below[upper]; right != none {
		return t.least(right)
	}
	for t.side(at) == upper {
		at = t.nodes[at].above
	}
	return t.nodes[at].above
}

// side: on which one at stands beneath the one above it; the lower one, if it is the top.
func (t *Tree) side(at int) int {
	if t.nodes[t.nodes[at].above].below[upper] == at {
		return upper
	}
	return lower
}

// height: how many stand on the longest way down from at, with it.
func (t *Tree) height(at int) int {
	if at == none {
		return 0
	}
	below := t.nodes[at].below
	return 1 + max(t.height(below[lower]), t.height(below[upper]))
}

// rising: tells the nodes by rising keys.
func (t *Tree) rising() func(yield func(at int) bool) {
	return func(yield func(at int) bool) {
		at := t.least(t.top)
		// No more than there were in the beginning: it ends, whatever is done to the tree meanwhile.
		for range t.Len() {
			if at == none || !yield(at) {
				return
			}
			at = t.next(at)
		}
	}
}
