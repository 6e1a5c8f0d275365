package lists_test

import (
	"slices"
	"testing"

	"canter/api"
	"canter/lists"
)

// stopped: what is told to a yield that answers false at the given place, from 0 on; whether it is told more behind that is told too.
func stopped(walk func(yield func(sock int, fresh bool) bool), at int) []entry {
	var e []entry
	walk(func(sock int, fresh bool) bool {
		e = append(e, entry{sock, fresh})
		return len(e) <= at
	})
	return e
}

// TestAllStops: at the first one, in the middle, at the last one of the new list, and at each other one; All may be ranged over again.
func TestAllStops(t *testing.T) {
	for fresh := range socks + 1 {
		for n := fresh; n <= socks; n++ {
			var all []int
			for i := range n {
				all = append(all, (5*i+3)%socks)
			}
			l := made(t, all[:fresh], all[fresh:])
			want := entries(all[:fresh], all[fresh:])
			walk := l.All()
			for at := range n {
				for _, w := range []func(yield func(sock int, fresh bool) bool){walk, l.All()} {
					if e := stopped(w, at); !slices.Equal(e, want[:at+1]) {
						t.Errorf("R10: All, of %v, stopped at %d: %v", want, at, e)
					}
				}
			}
			for range 2 {
				if e := told(walk); !slices.Equal(e, want) {
					t.Errorf("R10: All, again: %v; want %v", e, want)
				}
			}
		}
	}
}

// first: the first one of a list, by a range that is left by return; -1 of none.
func first(l *lists.Lists, fresh bool) int {
	for sock, f := range l.All() {
		if f == fresh {
			return sock
		}
	}
	return -1
}

// upto: those up to and with a socket, by a range that is left by break.
func upto(l *lists.Lists, last int) []entry {
	var e []entry
	for sock, fresh := range l.All() {
		e = append(e, entry{sock, fresh})
		if sock == last {
			break
		}
	}
	return e
}

func TestAllBreakReturn(t *testing.T) {
	fresh, old := []int{4, 2}, []int{6, 0}
	l := made(t, fresh, old)
	want := entries(fresh, old)
	for i, last := range []int{4, 2, 6, 0} {
		if e := upto(l, last); !slices.Equal(e, want[:i+1]) {
			t.Errorf("R10: All, with a break at %d: %v", last, e)
		}
	}
	if e := upto(l, 7); !slices.Equal(e, want) {
		t.Errorf("R10: All, with a break that does not come: %v", e)
	}
	if n, o := first(l, true), first(l, false); n != 4 || o != 6 {
		t.Errorf("R10: All, with a return: %d, %d; want 4, 6", n, o)
	}
	var none *lists.Lists
	for _, l := range []*lists.Lists{none, lists.New()} {
		if first(l, true) != -1 || first(l, false) != -1 || len(upto(l, 0)) != 0 {
			t.Error("R10: All: something of none")
		}
	}
	holds(t, l, fresh, old)
}

// TestAllNothing: of empty and of nil lists there is a function too, which tells nothing, and again nothing.
func TestAllNothing(t *testing.T) {
	var none *lists.Lists
	for _, l := range []*lists.Lists{none, lists.New(), {}} {
		walk := l.All()
		if walk == nil {
			t.Fatal("P19.1: All: nil")
		}
		for range 2 {
			walk(func(int, bool) bool {
				t.Error("P19.1: All: something of none")
				return true
			})
		}
	}
}

// TestAllNilYield: a yield that is nil is told nothing, and nothing panics.
func TestAllNilYield(t *testing.T) {
	var none *lists.Lists
	for _, l := range []*lists.Lists{none, lists.New(), made(t, []int{1}, nil), made(t, nil, []int{1}), made(t, []int{1, 2}, []int{3})} {
		l.All()(nil)
	}
}

// TestAllThen: what is told is what there was as All was called, whatever is done while it is told, and behind that.
func TestAllThen(t *testing.T) {
	deeds := []struct {
		name string
		do   func(l *lists.Lists)
	}{
		{"Push a new one", func(l *lists.Lists) { push(t, l, 5, true, api.OK) }},
		{"Push an old one", func(l *lists.Lists) { push(t, l, 5, false, api.OK) }},
		{"Drop", func(l *lists.Lists) { drop(t, l, true) }},
		{"Back", func(l *lists.Lists) { back(t, l, true) }},
		{"Remove a new one", func(l *lists.Lists) { remove(t, l, 2, true) }},
		{"Remove an old one", func(l *lists.Lists) { remove(t, l, 0, true) }},
		{"Drop all", func(l *lists.Lists) {
			for range 4 {
				drop(t, l, true)
			}
			drop(t, l, false)
		}},
	}
	for _, d := range deeds {
		fresh, old := []int{4, 2}, []int{6, 0}
		want := entries(fresh, old)
		l := made(t, fresh, old)
		walk := l.All()
		d.do(l)
		for range 2 {
			if e := told(walk); !slices.Equal(e, want) {
				t.Errorf("R2: All, then %s: %v; want %v", d.name, e, want)
			}
		}
		for at := range want {
			l := made(t, fresh, old)
			var e []entry
			for sock, fresh := range l.All() {
				if len(e) == at {
					d.do(l)
				}
				e = append(e, entry{sock, fresh})
			}
			if !slices.Equal(e, want) {
				t.Errorf("R2: All, with %s at %d: %v; want %v", d.name, at, e, want)
			}
		}
	}
}

// TestAllWithin: one range within another; neither one turns what the other tells.
func TestAllWithin(t *testing.T) {
	l := made(t, []int{4, 2}, []int{6, 0})
	walk := l.All()
	want := entries([]int{4, 2}, []int{6, 0})
	var outer []entry
	for sock, fresh := range walk {
		outer = append(outer, entry{sock, fresh})
		if e := told(walk); !slices.Equal(e, want) {
			t.Errorf("R10: All within All: %v; want %v", e, want)
		}
	}
	if !slices.Equal(outer, want) {
		t.Errorf("R10: All about All: %v; want %v", outer, want)
	}
}

// TestApart: what is done with some lists changes no others.
func TestApart(t *testing.T) {
	a, b := made(t, []int{4, 2}, []int{6, 0}), made(t, []int{1}, []int{4, 5})
	push(t, a, 7, true, api.OK)
	back(t, a, true)
	holds(t, b, []int{1}, []int{4, 5})
	drop(t, b, true)
	remove(t, b, 4, true)
	holds(t, a, []int{2, 7}, []int{6, 0, 4})
	holds(t, b, nil, []int{5})
}
