package rbtree

// hang: at (which may be none) stands beneath above, on that side, from now on; it is the top, if above is none.
func (t *Tree) hang(at, above, side int) {
	if above == none {
		t.top = at
	} else {
		t.nodes[above].below[side] = at
	}
	if at != none {
		t.nodes[at].above = above
	}
}

// lift: at and the one above it turn round, so that this one stands beneath at; the order of keys stays.
func (t *Tree) lift(at int) {
	above, side := t.nodes[at].above, t.side(at)
	over, overSide := t.nodes[above].above, t.side(above)
	t.hang(t.nodes[at].below[1-side], above, side)
	t.hang(above, at, 1-side)
	t.hang(at, over, overSide)
}

// cut: at, beneath which stands one at most, is in the tree no more: that one takes its place.
func (t *Tree) cut(at int) {
	gone, side := t.nodes[at], t.side(at)
	heir := gone.below[lower]
	if heir == none {
		heir = gone.below[upper]
	}
	t.hang(heir, gone.above, side)
	switch {
	case gone.red: // no way down has a black one less
	case t.nodes[heir].red:
		t.nodes[heir].red = false
	default:
		t.mendBlack(gone.above, side)
	}
}

// mendRed: at is red, and so may be the one above it: then that is mended, here or further up.
func (t *Tree) mendRed(at int) {
walk:
	for {
		above := t.nodes[at].above
		over := t.nodes[above].above // there is one, if above is red: the top is black
		beside := t.nodes[over].below[1-t.side(above)]
		switch {
		case !t.nodes[above].red:
			break walk
		case t.nodes[beside].red:
			t.nodes[above].red, t.nodes[beside].red, t.nodes[over].red = false, false, true
			at = over
		default:
			if t.side(at) != t.side(above) {
				t.lift(at)
				above = at
			}
			t.lift(above)
			t.nodes[above].red, t.nodes[over].red = false, true
			break walk
		}
	}
	t.nodes[t.top].red = false
}

// mendBlack: the ways down from above on that side have one black node less than those on its other side: that is mended, here or further up.
func (t *Tree) mendBlack(above, side int) {
walk:
	for above != none {
		beside := t.nodes[above].below[1-side] // there is one, since its side has a black one more
		near, far := t.nodes[beside].below[side], t.nodes[beside].below[1-side]
		switch {
		case t.nodes[beside].red: // then the next one beside is black
			t.lift(beside)
			t.nodes[beside].red, t.nodes[above].red = false, true
		case t.nodes[far].red:
			t.lift(beside)
			t.nodes[beside].red = t.nodes[above].red
			t.nodes[above].red, t.nodes[far].red = false, false
			break walk
		case t.nodes[near].red: // then the next one that is far is red
			t.lift(near)
			t.nodes[near].red, t.nodes[beside].red = false, true
		case t.nodes[above].red:
			t.nodes[above].red, t.nodes[beside].red = false, true
			break walk
		default:
			t.nodes[beside].red = true
			above, side = t.nodes[above].above, t.side(above)
		}
	}
}
