package ledger_test

import (
	"math"
	"math/big"
	"testing"

	"canter/api"
	"canter/ledger"
)

func balanced(t *testing.T, c api.Count, want bool) {
	t.Helper()
	if ledger.Balanced(c) != want {
		t.Errorf("P7.2: Balanced(%+v): %t", c, !want)
	}
}

func TestBalanced(t *testing.T) {
	const most, least = math.MaxInt, math.MinInt
	for _, r := range []struct {
		fates  fates
		queued int
		want   bool
	}{
		{fates{}, 0, true},
		{fates{1}, 1, true},
		{fates{1}, 0, false},
		{fates{0}, 1, false},
		{fates{20, 1, 2, 3, 4, 5}, 5, true},
		{fates{15, 1, 2, 3, 4, 5}, 0, true},
		{fates{21, 1, 2, 3, 4, 5}, 5, false}, // one more accepted than the others together
		{fates{19, 1, 2, 3, 4, 5}, 5, false}, // one less

		// Numbers below 0, though they come to as many, or go round to it.
		{fates{-1}, -1, false},
		{fates{-1, -1}, 0, false},
		{fates{0, -1}, 1, false},
		{fates{0, 1}, -1, false},
		{fates{0, 1, -1}, 0, false},
		{fates{5, 6, 0, 0, 0, -1}, 0, false},
		{fates{5, 5, 0, 0, 0, 0}, -1, false},
		{fates{least}, 0, false},
		{fates{least}, least, false},
		{fates{0}, least, false},
		{fates{least, most}, 1, false},
		{fates{0, least, least}, 0, false},
		{fates{most, most, least, least}, 0, false},

		// The greatest ones.
		{fates{most}, most, true},
		{fates{most, most}, 0, true},
		{fates{most, 0, 0, 0, 0, most}, 0, true},
		{fates{most, most - 1}, 1, true},
		{fates{most, 1}, most - 1, true},
		{fates{most, 0, 0, 1, 0, 0}, most - 1, true},
		{fates{most}, most - 1, false},
		{fates{most - 1}, most, false},
		{fates{most - 1, most}, 0, false},

		// Fates that are together more than the greatest int: they must not go round.
		{fates{most, most}, 1, false},
		{fates{most, most}, most, false},
		{fates{most, most, 1}, 0, false},
		{fates{0, most, most}, 2, false},             // 2^64
		{fates{0, most, most, 2}, 0, false},          // 2^64
		{fates{5, most, most, 2, 5}, 0, false},       // 2^64 + 5
		{fates{most, most, most}, 2, false},          // 2^64
		{fates{0, most, most, most, most}, 4, false}, // 2 * 2^64
		{fates{most, most, most, most, most, most}, most, false},
		{fates{most - 5, most, most, most, most, most}, 0, false}, // 5 * 2^63 - 5
	} {
		// What Sock is plays no part.
		for _, sock := range []int{0, 1, api.MaxSocks, -1, most, least} {
			balanced(t, api.Count{Sock: sock, Fates: r.fates, Queued: r.queued}, r.want)
		}
	}
}

// TestBalancedPlaces: each of the numbers counts, Queued and the five fates beside Accepted, and no more than once.
func TestBalancedPlaces(t *testing.T) {
	for _, n := range []int{1, 2, 1000, math.MaxInt - 1, math.MaxInt} {
		for at := range api.Fates {
			c := api.Count{Fates: fates{n}}
			number := &c.Queued // in the place of Accepted, which is taken
			if at != api.Accepted {
				number = &c.Fates[at]
			}
			for _, m := range []int{n - 1, n, -n, -1, math.MinInt} {
				*number = m
				balanced(t, c, m == n)
			}
			*number = n
			c.Fates[api.Accepted] = n - 1
			balanced(t, c, false)
			c.Fates[api.Accepted] = -n
			balanced(t, c, false)
		}
	}
}

// plainly: Balanced by numbers without an end.
func plainly(c api.Count) bool {
	sum, good := big.NewInt(int64(c.Queued)), c.Queued >= 0
	for fate, n := range c.Fates {
		good = good && n >= 0
		if fate != api.Accepted {
			sum.Add(sum, big.NewInt(int64(n)))
		}
	}
	return good && sum.Cmp(big.NewInt(int64(c.Fates[api.Accepted]))) == 0
}

// TestBalancedPlainly: all counts of some few numbers.
func TestBalancedPlainly(t *testing.T) {
	numbers := []int{math.MinInt, -1, 0, 1, 2, math.MaxInt - 1, math.MaxInt}
	total := 1
	for range api.Fates + 1 {
		total *= len(numbers)
	}
	n := 0
	for k := range total {
		var c api.Count
		c.Queued = numbers[k%len(numbers)]
		k /= len(numbers)
		for fate := range c.Fates {
			c.Fates[fate] = numbers[k%len(numbers)]
			k /= len(numbers)
		}
		want := plainly(c)
		balanced(t, c, want)
		if want {
			n++
		}
	}
	if n == 0 {
		t.Error("none of them is balanced")
	}
}
