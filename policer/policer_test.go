package policer_test

import (
	"testing"

	"canter/api"
	"canter/policer"
)

// uses: what Use answers behind a path.
func uses(t *testing.T, h path, want uint64, in bool) {
	t.Helper()
	if bw, is := h.walked().Use(); bw != want || is != in {
		t.Errorf("P16.1: Use: %d, %t; want %d, %t: behind %+v", bw, is, want, in, h)
	}
}

// ended: with a sample behind it that ends so much later with so much more delivered, most of it lost; no round starts with its end.
func (h path) ended(time, delivered uint64) path {
	last := h[len(h)-1].s
	return h.rounds(few, last.Now, last.Delivered).and(step{false, api.Sample{Now: last.Now + time, Delivered: last.Delivered + delivered, Lost: delivered}})
}

// begun: a sample begins, at 0, with nothing delivered, and 1 lost.
func begun() path { return path{{false, api.Sample{Lost: 1}}} }

// sampling: at a sample that began behind a Second with 1000 delivered and 600 lost.
func sampling(bw, rounds uint64) told {
	return told{samples: true, bw: bw, rounds: rounds, now: second, delivered: 1000, lost: 600, all: 600}
}

// TestExample: without losses, never in use.
func TestExample(t *testing.T) {
	var h path
	for n := range uint64(300) {
		h = h.and(step{true, api.Sample{Now: n * second / 10, Delivered: n * 100, Prior: less(n, 1) * 100, Interval: second / 10, Rtt: second / 10, Acked: 100, Flight: 100}})
		uses(t, h, 0, false)
	}
	for _, start := range bools {
		for _, limited := range bools {
			p := policer.New()
			for _, now := range []uint64{0, 1, second, 1 << 63, most} {
				for _, delivered := range []uint64{0, 1, 100, 1 << 63, most} {
					for range 2 * many {
						p.Update(start, api.Sample{Now: now, Delivered: delivered, Limited: limited})
						asked(t, p, &told{})
					}
				}
			}
		}
	}
}

// TestBeginning: R1: the second one New did not make.
func TestBeginning(t *testing.T) {
	for _, p := range []*policer.Policer{policer.New(), {}} {
		asked(t, p, &told{})
		for _, l := range begun().ended(second, 100).ended(second, 104) {
			asked(t, p, &told{})
			p.Update(l.start, l.s)
		}
		asked(t, p, &told{use: true, bw: 102})
	}
	stands(t, nil, told{})
}

// TestHandMade: two samples that are near each other, and then how long it is in use, by numbers worked out by hand.
func TestHandMade(t *testing.T) {
	h := path{{false, api.Sample{Now: 2 * second, Delivered: 200, Lost: 10}}}
	h = h.rounds(3, 3*second, 300).and(step{true, api.Sample{Now: 6 * second, Delivered: 600, Lost: 78}}) // 400 in 4 Seconds; 400 * 50 / 256 is 78
	uses(t, h, 0, false)
	h = h.rounds(3, 7*second, 700)
	uses(t, h, 0, false)
	lost := h.and(step{true, api.Sample{Now: 10 * second, Delivered: 1034, Lost: 84}}) // 434 in 4 Seconds; 434 * 50 / 256 is 84
	uses(t, lost, 104, true)                                                           // of 100 and 108
	uses(t, h.and(step{true, api.Sample{Now: 10 * second, Delivered: 1034, Lost: 83}}), 0, false)
	uses(t, h.and(step{false, api.Sample{Now: 10 * second, Delivered: 1034, Lost: 84}}), 0, false)
	uses(t, lost.rounds(47, 0, 0), 104, true)
	uses(t, lost.rounds(48, 0, 0), 0, false)
	uses(t, lost.rounds(200, 0, 0), 0, false)
}

// steps: each start, limited or not, with that lost.
func steps(now, delivered, lost uint64) (l path) {
	for _, start := range bools {
		for _, limited := range bools {
			l = l.and(step{start, api.Sample{Now: now, Delivered: delivered, Lost: lost, Limited: limited}})
		}
	}
	return l
}

// TestLost: what was lost is more by Lost first of all, in each state.
func TestLost(t *testing.T) {
	for _, all := range []uint64{600, 700, most - 100, most - 1, most} {
		for _, lost := range []uint64{0, 1, 99, 100, 101, 1 << 63, most} {
			want := plus(all, lost)
			for _, l := range steps(2*second, 1000, lost) { // no more delivered: no end
				none := told{all: want}
				at := none
				if lost > 0 {
					at = told{samples: true, now: 2 * second, delivered: 1000, lost: want, all: want}
				}
				comes(t, told{all: all}, l, at)
				for _, bw := range []uint64{0, 100} {
					for _, rounds := range []uint64{0, 2, few, many - 1} {
						o := sampling(bw, rounds)
						o.all = all
						at := none
						if !l.s.Limited {
							at = o
							at.all = want
							if l.start {
								at.rounds++
							}
						}
						comes(t, o, l, at)
					}
				}
				for _, rounds := range []uint64{0, 20, end - 1} {
					at := told{use: true, bw: 100, rounds: rounds, all: want}
					if l.start {
						at.rounds++
					}
					if at.rounds == end {
						at = none
					}
					comes(t, told{use: true, bw: 100, rounds: rounds, all: all}, l, at)
				}
			}
		}
	}
}

// TestLostAll: once all that may be was lost, no more is lost in any sample: it ends only with so little delivered that nothing need be lost. So what was lost in use, and in a limited sample, is to be seen.
func TestLostAll(t *testing.T) {
	used := begun().ended(second, 100).ended(second, 100)
	uses(t, used, 100, true)
	limited := begun().and(step{true, api.Sample{Limited: true}})
	for _, h := range []path{used, limited, begun(), nil} {
		for _, start := range bools {
			for _, is := range bools {
				for _, lost := range []uint64{1, most - 1, most} {
					g := h.and(step{start, api.Sample{Lost: lost, Limited: is}}).rounds(end, 0, 0)
					g = g.and(step{false, api.Sample{Limited: true}}, step{false, api.Sample{Lost: 1}})
					for _, bw := range []uint64{5, 6, 100} {
						if lost == 1 || bw == 5 {
							uses(t, g.ended(second, bw).ended(second, bw), bw, true)
						} else {
							uses(t, g.ended(second, bw).ended(second, bw), 0, false)
						}
					}
				}
			}
		}
	}
}

// TestLostSince: what was lost ahead of a sample, and with its beginning, does not count for it; what was lost in it and with its end does.
func TestLostSince(t *testing.T) {
	for _, r := range []struct {
		ahead, within, last uint64
		is                  bool
	}{{1, 0, 19, true}, {1, 0, 18, false}, {1000, 0, 18, false}, {1000, 0, 19, true}, {1, 18, 1, true}, {1, 17, 1, false}, {500, 9, 10, true}, {500, 9, 9, false}, {1, 100, 1, true}, {1, 19, 0, false}, {1, most, 1, true}, {most - 18, 18, 1, false}, {most - 19, 18, 1, true}, {most - 19, 19, most, true}} {
		h := path{{false, api.Sample{Lost: r.ahead}}}.rounds(2, 0, 0)
		h = h.and(step{true, api.Sample{Lost: r.within}}).rounds(1, 0, 0)
		h = h.and(step{false, api.Sample{Now: second, Delivered: 100, Lost: r.last}}) // 100 * 50 / 256 is 19
		// The one behind it is of 5, so that it ends by whatever is lost.
		want := told{samples: true, rounds: few, lost: r.ahead, all: plus(plus(r.ahead, r.within), r.last)}
		if r.is {
			want = told{samples: true, bw: 100, now: second, delivered: 100, lost: want.all, all: want.all}
		}
		stands(t, h, want)
		if t.Failed() {
			t.Fatalf("P16.1: %+v", r)
		}
	}
}

// TestBegins: it does not sample: one begins just if something is lost, whatever else there is.
func TestBegins(t *testing.T) {
	for _, all := range []uint64{0, 1, 500, most - 1, most} {
		for _, now := range []uint64{0, 1, second, 1 << 63, most - 1, most} {
			for _, delivered := range []uint64{0, 1, 1000, 1 << 63, most - 1, most} {
				for _, lost := range []uint64{0, 1, 2, 1000, most} {
					for _, l := range steps(now, delivered, lost) {
						want := told{all: all}
						if lost > 0 {
							all := plus(all, lost)
							want = told{samples: true, now: now, delivered: delivered, lost: all, all: all}
						}
						comes(t, told{all: all}, l, want)
					}
				}
			}
		}
	}
}

// TestBeginsAlone: neither rounds nor what is delivered begin one; it begins with the loss, not ahead of it.
func TestBeginsAlone(t *testing.T) {
	h := path(nil).rounds(end, 7, 7)
	stands(t, h, told{})
	h = h.and(step{true, api.Sample{Now: 5 * second, Delivered: 5000, Lost: 3}})
	stands(t, h, told{samples: true, now: 5 * second, delivered: 5000, lost: 3, all: 3})
}

// TestLimited: it samples, and s.Limited: it does not sample, and has no bandwidth, even if the sample ended with it else.
func TestLimited(t *testing.T) {
	for _, bw := range []uint64{0, 100, 800} {
		for _, rounds := range []uint64{0, 1, few - 1, few, few + 1, many - 1, many} {
			for _, lost := range []uint64{0, 1, 500, most} {
				for _, start := range bools {
					for _, delivered := range []uint64{0, 1000, 1100, 1800} {
						l := step{start, api.Sample{Now: 2 * second, Delivered: delivered, Lost: lost, Limited: true}}
						comes(t, sampling(bw, rounds), l, told{all: plus(600, lost)})
					}
				}
			}
		}
	}
}

// TestLimitedThen: what is limited is forgotten: only the next loss begins one, and two samples behind that must be near each other.
func TestLimitedThen(t *testing.T) {
	for _, lost := range []uint64{0, 500} {
		h := begun().ended(second, 100).and(step{true, api.Sample{Now: second, Delivered: 100, Lost: lost, Limited: true}})
		h = h.rounds(many, 2*second, 200)
		stands(t, h, told{all: 101 + lost})
		h = h.and(step{false, api.Sample{Now: 3 * second, Delivered: 300, Lost: 100}}) // were there one, it would end
		uses(t, h, 0, false)
		stands(t, h, told{samples: true, now: 3 * second, delivered: 300, lost: 201 + lost, all: 201 + lost})
		h = h.ended(second, 100)
		uses(t, h, 0, false)
		uses(t, h.ended(second, 100), 100, true)
	}
}

// TestRounds: rounds about LtRounds, and about 4 times LtRounds, with a start and without, with losses and without.
func TestRounds(t *testing.T) {
	for rounds := range uint64(many + 1) {
		for _, start := range bools {
			for _, bw := range []uint64{0, 50, 96, 100, 104} {
				for _, lost := range []uint64{0, 18, 19, 20, 1000} {
					o := sampling(bw, rounds)
					l := step{start, api.Sample{Now: 2 * second, Delivered: 1100, Lost: lost}} // 100 in a Second; 19 is enough
					want := o
					want.all += lost
					if start {
						want.rounds++
					}
					switch {
					case want.rounds > 16:
						want = told{all: 600 + lost}
					case want.rounds < 4 || lost < 19:
					case bw > 90:
						want = told{use: true, bw: (bw + 100) / 2, all: 600 + lost}
					default:
						want = told{samples: true, bw: 100, now: 2 * second, delivered: 1100, lost: 600 + lost, all: 600 + lost}
					}
					comes(t, o, l, want)
				}
			}
		}
	}
}

// TestTooLong: the sample that lasts too long is forgotten by the round that is too much, whatever is lost with it; none begins with that.
func TestTooLong(t *testing.T) {
	for _, bw := range []uint64{0, 100} {
		for _, lost := range []uint64{0, 1, 18, 19, 100, most} {
			for _, delivered := range []uint64{0, 1000, 1100, most} {
				for _, now := range []uint64{0, second, 2 * second, most} {
					l := step{true, api.Sample{Now: now, Delivered: delivered, Lost: lost}}
					comes(t, sampling(bw, many), l, told{all: plus(600, lost)})
				}
			}
		}
	}
	// Rounds are counted from its beginning on, not from where it forgot one.
	h := begun().rounds(many+1, 0, 0).and(step{true, api.Sample{Lost: 1}})
	stands(t, h, told{samples: true, lost: 2, all: 2})
	stands(t, h.rounds(many, 0, 0), told{samples: true, rounds: many, lost: 2, all: 2})
	uses(t, h.rounds(few-1, 0, 0).and(step{false, api.Sample{Now: second, Delivered: 100, Lost: 100}}).ended(second, 100), 0, false)
}

// TestNothingLost: at LtRounds and above, without a loss nothing but the rounds is turned, however much is delivered.
func TestNothingLost(t *testing.T) {
	for _, bw := range []uint64{0, 100} {
		for _, rounds := range []uint64{few - 1, few, few + 1, many - 1} {
			for _, start := range bools {
				for _, delivered := range []uint64{0, 999, 1000, 1001, 1100, most} {
					for _, now := range []uint64{0, second, second + 1, 2 * second, most} {
						o := sampling(bw, rounds)
						o.all = 5000 // more than enough, ahead of it
						want := o
						if start {
							want.rounds++
						}
						comes(t, o, step{start, api.Sample{Now: now, Delivered: delivered}}, want)
					}
				}
			}
		}
	}
}

// TestNoEnd: with nothing delivered, or without time, both below what they were included, it samples on.
func TestNoEnd(t *testing.T) {
	for _, r := range []struct {
		now, delivered uint64
		bw             uint64 // 0: no end
	}{
		{2 * second, 1000, 0}, {2 * second, 999, 0}, {2 * second, 0, 0}, {most, 1000, 0}, {most, 0, 0},
		{second, 1100, 0}, {second - 1, 1100, 0}, {0, 1100, 0}, {0, most, 0}, {second, most, 0},
		{second, 1000, 0}, {0, 0, 0}, {second - 1, 999, 0},
		{2 * second, 1001, 1}, {2 * second, 1002, 2}, {second + 1, 1001, second}, {second + 2, 1001, second / 2}, {second + 1, 1002, 2 * second},
	} {
		for _, bw := range []uint64{0, 600} {
			for _, start := range bools {
				o := sampling(bw, few)
				want := o
				want.all = most
				if start {
					want.rounds++
				}
				if r.bw > 0 {
					want = told{samples: true, bw: r.bw, now: r.now, delivered: r.delivered, lost: most, all: most}
				}
				comes(t, o, step{start, api.Sample{Now: r.now, Delivered: r.delivered, Lost: most}}, want)
			}
		}
	}
}

// TestEnough: lost one below, at, and one above what is enough, worked out by hand.
func TestEnough(t *testing.T) {
	for _, r := range []struct{ delivered, enough uint64 }{
		{1, 0}, {5, 0}, {6, 1}, {10, 1}, {11, 2}, {100, 19}, {127, 24}, {128, 25}, {129, 25}, {255, 49}, {256, 50}, {257, 50}, {261, 50}, {262, 51}, {1000, 195}, {256000, 50000},
		{1 << 62, 50 << 54}, {1 << 63, 50 << 55}, {most, 50<<56 - 1},
	} {
		for _, late := range bools { // some of it ahead of the end, or all with the end
			for _, lost := range []uint64{r.enough - 1, r.enough, r.enough + 1, 0, most - 3} { // below 0 it goes round, and is enough
				h := path{{false, api.Sample{Lost: 3}}}.rounds(few, 0, 0)
				last := max(1, lost)
				if !late && lost > 1 {
					h = h.and(step{false, api.Sample{Lost: lost - 1}})
					last = 1
				}
				got := max(1, lost)
				want := told{samples: true, rounds: few, lost: 3, all: plus(3, got)}
				if got >= r.enough {
					want = told{samples: true, bw: r.delivered, now: second, delivered: r.delivered, lost: want.all, all: want.all}
				}
				stands(t, h.and(step{false, api.Sample{Now: second, Delivered: r.delivered, Lost: last}}), want)
				if t.Failed() {
					t.Fatalf("P16.1: %d of %d lost", got, r.delivered)
				}
			}
		}
	}
}

// TestBandwidth: by numbers worked out by hand; with none ahead of it, and with one that is not near.
func TestBandwidth(t *testing.T) {
	for _, r := range []struct{ delivered, time, bw uint64 }{
		{100, second, 100}, {100, 3 * second, 33}, {101, 2 * second, 50}, {7, 2 * second, 3}, {1, second, 1}, {1, second + 1, 0}, {1, 2 * second, 0}, {2, second + 1, 1},
		{1, 1, second}, {3, 2, 1_500_000_000}, {1, 3, 333_333_333}, {5, second / 2, 10}, {1500, 1_234_567, 1_215_000},
		{1 << 62, second, 1 << 62}, {1 << 63, second, 1 << 63}, {most, second, most}, {most, second + 1, 18_446_744_055_262_807_559}, {most, second - 1, most},
		{most, most, second}, {most - 1, most, second - 1}, {1, most, 0}, {18_446_744_073, most, 0}, {18_446_744_074, most, 1},
		{18_446_744_073, 1, 18_446_744_073_000_000_000}, {18_446_744_074, 1, most}, {1 << 62, 1, most}, {most, 1, most}, {most, 2, most},
	} {
		l := step{false, api.Sample{Now: r.time, Delivered: r.delivered, Lost: most - 1}}
		stands(t, begun().rounds(few, 0, 0).and(l), told{samples: true, bw: r.bw, now: r.time, delivered: r.delivered, lost: most, all: most})
		if t.Failed() {
			t.Fatalf("P16.1: %d in %d; want %d", r.delivered, r.time, r.bw)
		}
		if r.time <= most-second && r.delivered <= most-600 {
			l.s.Now += second
			l.s.Delivered += 600
			h := begun().ended(second, 600).rounds(few, second, 600).and(l)
			stands(t, h, told{samples: true, bw: r.bw, now: l.s.Now, delivered: l.s.Delivered, lost: most, all: most})
			if t.Failed() {
				t.Fatalf("P16.1: %d in %d, behind 600; want %d", r.delivered, r.time, r.bw)
			}
		}
	}
}

// TestNear: apart by an eighth of the one there is, of the other's an eighth is another; half of both, rounded down.
func TestNear(t *testing.T) {
	for _, r := range []struct {
		was, bw, half uint64 // half 0: not near
	}{
		{800, 700, 750}, {800, 701, 750}, {800, 702, 751}, {800, 699, 0}, {800, 690, 0}, {800, 711, 755}, {800, 900, 850}, {800, 899, 849}, {800, 901, 0}, {800, 910, 0}, {800, 800, 800}, {800, 1, 0}, {800, 1600, 0},
		{807, 707, 757}, {807, 706, 0}, {807, 907, 857}, {807, 908, 0}, {808, 707, 757}, {808, 706, 0}, {808, 909, 858}, {808, 910, 0},
		{1, 1, 1}, {1, 2, 0}, {2, 1, 0}, {2, 2, 2}, {2, 3, 0}, {7, 7, 7}, {7, 6, 0}, {7, 8, 0}, {8, 8, 8}, {8, 7, 7}, {8, 9, 8}, {8, 6, 0}, {8, 10, 0}, {9, 8, 8}, {9, 10, 9}, {9, 7, 0},
		{15, 14, 14}, {15, 16, 15}, {15, 17, 0}, {16, 18, 17}, {16, 19, 0}, {16, 14, 15}, {16, 13, 0}, {800, 801, 800}, {801, 800, 800}, {801, 801, 801}, {801, 803, 802}, {801, 802, 801},
		{1 << 40, 9 << 37, 17 << 36}, {1 << 40, 9<<37 + 1, 0}, {1 << 40, 7 << 37, 15 << 36}, {1 << 40, 7<<37 - 1, 0},
		{1 << 62, 9 << 59, 17 << 58}, {1 << 62, 9<<59 + 1, 0}, {1 << 62, 7 << 59, 15 << 58}, {1 << 62, 7<<59 - 1, 0},
		{1 << 63, 1<<63 - 1, 1<<63 - 1}, {1<<63 - 1, 1 << 63, 1<<63 - 1}, {1<<63 - 1, 1<<63 - 1, 1<<63 - 1}, {1 << 63, 7 << 60, 15 << 59}, {1 << 63, 7<<60 - 1, 0},
	} {
		for _, start := range bools {
			o := told{samples: true, bw: r.was, rounds: few, now: second, delivered: r.was, lost: 1 + need(r.was), all: 1 + need(r.was)}
			l := step{start, api.Sample{Now: 2 * second, Delivered: r.was + r.bw, Lost: need(r.bw)}}
			want := told{samples: true, bw: r.bw, now: l.s.Now, delivered: l.s.Delivered}
			if r.half > 0 {
				want = told{use: true, bw: r.half}
			}
			want.all = o.all + l.s.Lost
			want.lost = want.all
			comes(t, o, l, want)
			h := o.way().and(l)
			uses(t, h, r.half, r.half > 0)
			if r.half > 0 {
				uses(t, h.rounds(end-1, 0, 0), r.half, true) // with no rounds
				uses(t, h.rounds(end, 0, 0), 0, false)
			}
		}
	}
}

// TestGreatest: half of numbers whose sum is more than the greatest: they do not go round.
func TestGreatest(t *testing.T) {
	const (
		a = 18_446_744_073
		b = 18_446_744_074 // in a nanosecond: more than the greatest rate
	)
	for _, r := range []struct{ was, bw, half uint64 }{
		{b, b, most}, {1 << 62, 1 << 62, most}, {a, b, 18_446_744_073_354_775_807}, {b, a, 18_446_744_073_354_775_807}, {a, a, 18_446_744_073_000_000_000},
		{10_000_000_000, 10_000_000_000, 10_000_000_000_000_000_000}, {10_000_000_000, 11_000_000_000, 10_500_000_000_000_000_000}, {9_300_000_000, 9_200_000_000, 9_250_000_000_000_000_000},
		{b, 16_500_000_000, 17_473_372_036_854_775_807}, {b, 16_100_000_000, 0}, {16_500_000_000, b, 17_473_372_036_854_775_807}, {16_100_000_000, b, 0},
	} {
		h := begun().rounds(few, 0, 0).and(step{false, api.Sample{Now: 1, Delivered: r.was, Lost: r.was}})
		h = h.rounds(few, 1, r.was).and(step{false, api.Sample{Now: 2, Delivered: r.was + r.bw, Lost: r.bw}})
		uses(t, h, r.half, r.half > 0)
		uses(t, h.rounds(end-1, 0, 0), r.half, r.half > 0)
	}
}

// TestNotNear: the bandwidth is the later one, a sample begins with it, with no rounds, and what was lost with its end does not count for that.
func TestNotNear(t *testing.T) {
	h := begun().ended(second, 100).ended(second, 200).ended(second, 100).ended(second, 150)
	uses(t, h, 0, false)
	stands(t, h, told{samples: true, bw: 150, now: 4 * second, delivered: 550, lost: 551, all: 551})
	uses(t, h.ended(second, 150), 150, true)
	uses(t, h.ended(second, 100), 0, false)
	uses(t, h.ended(second, 100).ended(second, 100), 100, true)
	// With no bandwidth: that of a sample that came to 0 is none.
	h = begun().ended(2*second, 1)
	stands(t, h, told{samples: true, now: 2 * second, delivered: 1, lost: 2, all: 2})
	uses(t, h.ended(2*second, 1), 0, false)
	uses(t, h.ended(2*second, 1).ended(second, 100), 0, false)
	uses(t, h.ended(second, 100).ended(2*second, 1).ended(second, 100), 0, false)
}

// TestInUse: rounds alone turn something of it.
func TestInUse(t *testing.T) {
	for _, bw := range []uint64{1, 100, 1 << 62} {
		all := 1 + 2*need(bw)
		for _, rounds := range []uint64{0, 1, few, many, many + 1, end - 2, end - 1} {
			for _, lost := range []uint64{0, 1, 500, most} {
				for _, now := range []uint64{0, 3 * second, most} {
					for _, delivered := range []uint64{0, 3 * bw, most} {
						for _, l := range steps(now, delivered, lost) {
							want := told{use: true, bw: bw, rounds: rounds, all: plus(all, lost)}
							if l.start {
								want.rounds++
							}
							if want.rounds == 48 {
								want = told{all: want.all}
							}
							comes(t, told{use: true, bw: bw, rounds: rounds, all: all}, l, want)
						}
					}
				}
			}
		}
	}
}

// TestAnew: behind it nothing is left of the bandwidth, the sample and the rounds.
func TestAnew(t *testing.T) {
	h := begun()
	for n := range uint64(4) {
		bw := 100 + 3*n
		last := h[len(h)-1].s
		if n > 0 {
			h = h.and(step{true, api.Sample{Now: last.Now, Delivered: last.Delivered, Lost: 1}})
		}
		h = h.ended(second, bw)
		uses(t, h, 0, false)
		h = h.ended(second, bw)
		uses(t, h, bw, true)
		last = h[len(h)-1].s
		h = h.rounds(end-1, last.Now, last.Delivered)
		for range 5 {
			h = h.and(step{false, api.Sample{Now: last.Now, Delivered: last.Delivered, Limited: true}})
		}
		uses(t, h, bw, true)
		h = h.rounds(1, last.Now, last.Delivered)
		uses(t, h, 0, false)
		stands(t, h, told{all: h.lost()})
		h = h.rounds(2*end, last.Now, last.Delivered)
		uses(t, h, 0, false)
	}
	// The round that ends it is of no sample, whatever is lost with it.
	h = begun().ended(second, 100).ended(second, 100).rounds(end-1, 2*second, 200).and(step{true, api.Sample{Now: 9 * second, Delivered: 900, Lost: 100}})
	stands(t, h, told{all: 301})
}

// TestKept: R3: the sample that is handed in stays as it was.
func TestKept(t *testing.T) {
	s := api.Sample{Now: 1, Delivered: 2, Prior: 3, Interval: 4, Rtt: 5, Acked: 6, Lost: 7, Flight: 8, Limited: true}
	was := s
	p := policer.New()
	for range 60 {
		p.Update(true, s)
		p.Use()
	}
	if s != was {
		t.Errorf("R3: %+v; want %+v", s, was)
	}
}

// TestOthers: R8: what the chapter does not name of a sample plays no part.
func TestOthers(t *testing.T) {
	h := begun().ended(second, 100).ended(second, 104)
	for _, other := range []api.Sample{{Prior: most}, {Interval: most}, {Interval: 1}, {Rtt: most}, {Acked: most}, {Flight: most}, {Prior: 50, Interval: 7, Rtt: 7, Acked: 7, Flight: 7}} {
		var g path
		for _, l := range h {
			other.Now, other.Delivered, other.Lost = l.s.Now, l.s.Delivered, l.s.Lost
			g = g.and(step{l.start, other})
		}
		uses(t, g[:len(g)-1], 0, false)
		uses(t, g, 102, true)
	}
}

// TestApart: R2: what is done with one is not to be seen in another.
func TestApart(t *testing.T) {
	a, b := policer.New(), policer.New()
	first, other := begun().ended(second, 100).ended(second, 100), begun().ended(second, 900).ended(second, 902)
	for i := range first {
		asked(t, a, &told{})
		a.Update(first[i].start, first[i].s)
		asked(t, b, &told{})
		b.Update(other[i].start, other[i].s)
	}
	asked(t, a, &told{use: true, bw: 100})
	asked(t, b, &told{use: true, bw: 901})
	for range end {
		asked(t, a, &told{use: true, bw: 100})
		a.Update(true, api.Sample{})
	}
	asked(t, a, &told{})
	asked(t, b, &told{use: true, bw: 901})
	asked(t, policer.New(), &told{})
}

func TestNil(t *testing.T) {
	var none *policer.Policer
	for _, l := range begun().ended(second, 100).ended(second, 100).rounds(2*end, 0, 0).and(step{true, api.Sample{Now: most, Delivered: most, Lost: most, Limited: true}}) {
		none.Update(l.start, l.s)
		asked(t, none, &told{})
	}
}
