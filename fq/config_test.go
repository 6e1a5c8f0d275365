package fq_test

import (
	"math"
	"testing"

	"canter/api"
	"canter/fq"
)

// bounds: of a field, and how it is set.
type bounds struct {
	name        string
	least, most int
	set         func(c *api.Config, v int)
}

func fields() []bounds {
	return []bounds{
		{"Quantum", 100, 65_536, func(c *api.Config, v int) { c.Quantum = v }},
		{"First", 100, 65_536, func(c *api.Config, v int) { c.First = v }},
		{"Limit", 1, 512, func(c *api.Config, v int) { c.Limit = v }},
		{"FlowLimit", 1, 512, func(c *api.Config, v int) { c.FlowLimit = v }},
		{"Cap", 1, 1 << 30, func(c *api.Config, v int) { c.Cap = v }},
		{"Mss", 100, 9_000, func(c *api.Config, v int) { c.Mss = v }},
	}
}

// others: configs that may be, in the midst and at the bounds, for one of whose fields another number is put in.
func others() []api.Config {
	least, greatest := api.Config{}, api.Config{Horizon: maxTime, MaxRate: most, DropHorizon: true}
	for _, f := range fields() {
		f.set(&least, f.least)
		f.set(&greatest, f.most)
	}
	return []api.Config{plain(), least, greatest}
}

// may: whether c is one that may be, by all that ask it.
func may(t *testing.T, c api.Config, want bool) {
	t.Helper()
	if fq.May(c) != want {
		t.Errorf("P20.1: May(%+v): %t", c, !want)
	}
	err := api.OK
	if !want {
		err = api.ErrConfig
	}
	q, got := fq.New(c)
	if got != err || (q != nil) != want {
		t.Errorf("P20.1: New(%+v): %v, error %d; want error %d", c, q, got, err)
	}
	set(t, made(t, plain()), c, err)
}

func TestMay(t *testing.T) {
	for _, c := range others() {
		may(t, c, true)
		for _, f := range fields() {
			for _, v := range []int{math.MinInt, -f.least, -1, 0, f.least - 1, f.least, f.least + 1, f.least/2 + f.most/2, f.most - 1, f.most, f.most + 1, 2 * f.most, 1 << 32, 1<<32 + f.least, math.MaxInt} {
				turned := c
				f.set(&turned, v)
				may(t, turned, f.least <= v && v <= f.most)
			}
		}
	}
}

func TestMayHorizon(t *testing.T) {
	for _, c := range others() {
		for _, v := range []uint64{0, 1, second, maxTime - 1, maxTime, maxTime + 1, 1 << 63, most - 1, most} {
			c.Horizon = v
			may(t, c, v <= maxTime)
		}
	}
}

// TestMayAny: any MaxRate may be, and either DropHorizon.
func TestMayAny(t *testing.T) {
	for _, c := range others() {
		for _, v := range []uint64{0, 1, second, maxTime + 1, most - 1, most} {
			for _, drop := range []bool{false, true} {
				c.MaxRate, c.DropHorizon = v, drop
				may(t, c, true)
			}
		}
	}
}

// TestMayNone: more than one field is as it may not be.
func TestMayNone(t *testing.T) {
	may(t, api.Config{}, false)
	for _, r := range []func(f bounds) int{
		func(f bounds) int { return f.least - 1 },
		func(f bounds) int { return f.most + 1 },
	} {
		c := plain()
		for _, f := range fields() {
			f.set(&c, r(f))
		}
		may(t, c, false)
		c.Horizon = maxTime + 1
		may(t, c, false)
	}
}

// TestSetRefused: whichever field it is for, nothing of it counts.
func TestSetRefused(t *testing.T) {
	for _, f := range fields() {
		for _, v := range []int{f.least - 1, f.most + 1} {
			was := plain()
			was.Limit, was.FlowLimit, was.Horizon, was.MaxRate = 3, 2, 10, 1_000_000_000
			q := made(t, was)
			is := api.Config{Quantum: 500, First: 300, Limit: 9, FlowLimit: 9, Horizon: 5, MaxRate: 1, DropHorizon: true, Cap: 7, Mss: 200}
			f.set(&is, v)
			set(t, q, is, api.ErrConfig)
			put(t, q, 0, seg(1, 0, 2000), stamped(1, 2000, 100, 11))
			meets(t, q, seg(1, 2100, 100), 0, overFlow)
			put(t, q, 0, seg(2, 0, 100))
			meets(t, q, seg(3, 0, 100), 0, overLimit)
			departs(t, q, 0, nil, seg(1, 0, 2000), seg(2, 0, 100))
			// Those that go Back have more by the Quantum.
			holds(t, q,
				api.Flow{Sock: 1, Credit: 1000, Place: inOld, Next: 2000, Segs: []api.Seg{stamped(1, 2000, 100, 10)}},
				api.Flow{Sock: 2, Credit: 1900, Place: inNew, Next: 100})
			if t.Failed() {
				t.Fatalf("P20.1: %s %d", f.name, v)
			}
		}
	}
}

// TestSetLimits: what came by greater ones stays; more comes only when less is there than the new ones.
func TestSetLimits(t *testing.T) {
	for _, r := range []struct {
		turn func(c *api.Config)
		fate int
	}{
		{func(c *api.Config) { c.Limit = 2 }, overLimit},
		{func(c *api.Config) { c.FlowLimit = 2 }, overFlow},
	} {
		q := made(t, plain())
		l := []api.Seg{seg(1, 0, 100), seg(1, 1, 100), seg(1, 2, 100), seg(1, 3, 100)}
		put(t, q, 0, l...)
		c := plain()
		r.turn(&c)
		set(t, q, c, api.OK)
		holds(t, q, api.Flow{Sock: 1, Credit: 2000, Place: inNew, Segs: l})
		for i := range 3 {
			meets(t, q, seg(1, 9, 100), 0, r.fate)
			departs(t, q, 0, nil, l[i])
		}
		put(t, q, 0, seg(1, 4, 100))
		meets(t, q, seg(1, 9, 100), 0, r.fate)
		holds(t, q, api.Flow{Sock: 1, Credit: 1700, Place: inNew, Segs: []api.Seg{l[3], seg(1, 4, 100)}})
		set(t, q, plain(), api.OK)
		put(t, q, 0, seg(1, 5, 100))
	}
}

// TestSetCredits: those that are there keep theirs; what is more from then on is by the new Quantum and First.
func TestSetCredits(t *testing.T) {
	q := made(t, plain())
	late := stamped(3, 0, 100, 9)
	put(t, q, 0, seg(1, 0, 2000), seg(1, 1, 100), seg(2, 0, 100), late, seg(4, 0, 1999))
	departs(t, q, 0, nil, seg(1, 0, 2000), seg(2, 0, 100))
	c := plain()
	c.Quantum, c.First = 100, 200
	set(t, q, c, api.OK)
	// Socket 1 went Back by the Quantum of then.
	holds(t, q,
		api.Flow{Sock: 1, Credit: 1000, Place: inOld, Segs: []api.Seg{seg(1, 1, 100)}},
		api.Flow{Sock: 2, Credit: 1900, Place: inNew},
		api.Flow{Sock: 3, Credit: 2000, Place: inNew, Segs: []api.Seg{late}},
		api.Flow{Sock: 4, Credit: 2000, Place: inNew, Segs: []api.Seg{seg(4, 0, 1999)}})
	put(t, q, 0, seg(5, 0, 300), seg(5, 1, 100))
	has(t, q, api.Flow{Sock: 5, Credit: 200, Place: inNew, Segs: []api.Seg{seg(5, 0, 300), seg(5, 1, 100)}})
	departs(t, q, 0, nil, seg(4, 0, 1999), seg(5, 0, 300), seg(1, 1, 100))
	has(t, q, api.Flow{Sock: 5, Credit: 0, Place: inOld, Segs: []api.Seg{seg(5, 1, 100)}})
	departs(t, q, 0, nil, seg(5, 1, 100))
	ends(t, q, 0, nil)
	holds(t, q,
		api.Flow{Sock: 1, Credit: 900, Place: nowhere},
		api.Flow{Sock: 2, Credit: 1900, Place: nowhere},
		api.Flow{Sock: 3, Credit: 2000, Place: waiting, Segs: []api.Seg{late}},
		api.Flow{Sock: 4, Credit: 1, Place: nowhere},
		api.Flow{Sock: 5, Credit: 100, Place: nowhere})
	// A credit that comes again is the new Quantum too: 1 is below that, 100 is not, nor are the others.
	put(t, q, refill, seg(4, 1, 1), seg(5, 2, 1), seg(1, 2, 1))
	has(t, q, api.Flow{Sock: 4, Credit: 100, Place: inNew, Segs: []api.Seg{seg(4, 1, 1)}})
	has(t, q, api.Flow{Sock: 5, Credit: 100, Place: inNew, Segs: []api.Seg{seg(5, 2, 1)}})
	has(t, q, api.Flow{Sock: 1, Credit: 900, Place: inNew, Segs: []api.Seg{seg(1, 2, 1)}})
}

// TestSetHorizon: a Stamp that was cut, or left, by another Horizon stays, and those that wait for it go on waiting.
func TestSetHorizon(t *testing.T) {
	q := made(t, plain())
	far, near := stamped(1, 0, 100, 10*second), stamped(2, 0, 100, 60)
	put(t, q, 0, stamped(1, 0, 100, most), near)
	ends(t, q, 0, nil)
	c := plain()
	c.Horizon = 50
	set(t, q, c, api.OK)
	put(t, q, 0, stamped(3, 0, 100, 60), stamped(3, 1, 100, 50))
	cut := []api.Seg{stamped(3, 0, 100, 50), stamped(3, 1, 100, 50)}
	c.DropHorizon = true
	set(t, q, c, api.OK)
	meets(t, q, stamped(4, 0, 100, 51), 0, horizon)
	holds(t, q,
		api.Flow{Sock: 1, Credit: 2000, Place: waiting, Segs: []api.Seg{far}},
		api.Flow{Sock: 2, Credit: 2000, Place: waiting, Segs: []api.Seg{near}},
		api.Flow{Sock: 3, Credit: 2000, Place: inNew, Segs: cut})
	departs(t, q, 50, nil, cut...)
	departs(t, q, 60, nil, near)
	ends(t, q, 10*second-1, nil)
	departs(t, q, 10*second, nil, far)
}

// TestSetRate: the time that a departure set stays; the next one goes by the new MaxRate.
func TestSetRate(t *testing.T) {
	c := plain()
	c.MaxRate = 1_000_000
	q := made(t, c)
	l := []api.Seg{seg(1, 0, 100), seg(1, 1, 100), seg(1, 2, 100)}
	put(t, q, 0, l...)
	departs(t, q, 0, nil, l[0])
	ends(t, q, 0, nil)
	c.MaxRate = 100_000
	set(t, q, c, api.OK)
	holds(t, q, api.Flow{Sock: 1, Credit: 1900, Place: waiting, Next: 100_000, Segs: l[1:]})
	ends(t, q, 99_999, nil)
	departs(t, q, 100_000, nil, l[1])
	holds(t, q, api.Flow{Sock: 1, Credit: 1800, Place: inOld, Next: 1_100_000, Segs: l[2:]})
	c.MaxRate = 0
	set(t, q, c, api.OK)
	ends(t, q, 1_099_999, nil)
	departs(t, q, 1_100_000, nil, l[2])
	has(t, q, api.Flow{Sock: 1, Credit: 1700, Place: inOld, Next: 1_100_000})
}
