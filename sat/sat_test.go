package sat_test

import (
	"math/big"
	"slices"
	"testing"

	"canter/api"
	"canter/sat"
)

const (
	most    = 1<<64 - 1
	mostInt = 1<<63 - 1
)

// edges: rising; 0, 2^32, 2^63 - 1, 2^64 - 1 and what is beside them, with ordinary numbers between.
func edges() []uint64 {
	return []uint64{
		0, 1, 2, 3, 5, 7, 255, 256, 1_000_000_000,
		1<<32 - 2, 1<<32 - 1, 1 << 32, 1<<32 + 1, 1<<32 + 2,
		most / 3, most/3 + 1, 1<<62 - 1, 1 << 62, 1<<62 + 1,
		mostInt - 2, mostInt - 1, mostInt, mostInt + 1, mostInt + 2, mostInt + 3,
		most - 3, most - 2, most - 1, most,
	}
}

// numbers: the edges, and some from a short rule of their own, spread over all sizes.
func numbers() []uint64 {
	l := edges()
	x := uint64(88172645463325252)
	for i := range 40 {
		x ^= x << 13
		x ^= x >> 7
		x ^= x << 17
		l = append(l, x>>(i*3%64))
	}
	slices.Sort(l)
	return slices.Compact(l)
}

func whole(v uint64) *big.Int { return new(big.Int).SetUint64(v) }

// held: v, or what of 0 and 2^64 - 1 it went past.
func held(v *big.Int) uint64 {
	switch {
	case v.Sign() < 0:
		return 0
	case !v.IsUint64():
		return most
	}
	return v.Uint64()
}

func TestPairs(t *testing.T) {
	for i, r := range []struct{ a, b, add, sub, mul uint64 }{
		{0, 0, 0, 0, 0},
		{1, 2, 3, 0, 2},
		{2, 1, 3, 1, 2},
		{12, 30, 42, 0, 360},
		{0, most, most, 0, 0},
		{most, 0, most, most, 0},
		{most, 1, most, most - 1, most},
		{1, most, most, 0, most},
		{most - 1, 1, most, most - 2, most - 1},
		{most - 1, 2, most, most - 3, most},
		{most - 2, 1, most - 1, most - 3, most - 2},
		{most, most, most, 0, most},
		{most, most - 1, most, 1, most},
		{most - 1, most, most, 0, most},
		{mostInt, mostInt, most - 1, 0, most},
		{mostInt, mostInt + 1, most, 0, most},
		{mostInt + 1, mostInt + 1, most, 0, most},
		{mostInt, 2, mostInt + 2, mostInt - 2, most - 1},
		{mostInt + 1, 2, mostInt + 3, mostInt - 1, most},
		{1<<32 - 1, 1 << 32, 1<<33 - 1, 0, 1<<64 - 1<<32},
		{1<<32 - 1, 1<<32 + 1, 1 << 33, 0, most},
		{1 << 32, 1 << 32, 1 << 33, 0, most},
		{3, most / 3, most/3 + 3, 0, most},
		{3, most/3 + 1, most/3 + 4, 0, most},
	} {
		if v := sat.Add(r.a, r.b); v != r.add {
			t.Errorf("P1.1: row %d: Add(%d, %d): %d; want %d", i, r.a, r.b, v, r.add)
		}
		if v := sat.Sub(r.a, r.b); v != r.sub {
			t.Errorf("P1.1: row %d: Sub(%d, %d): %d; want %d", i, r.a, r.b, v, r.sub)
		}
		if v := sat.Mul(r.a, r.b); v != r.mul {
			t.Errorf("P1.1: row %d: Mul(%d, %d): %d; want %d", i, r.a, r.b, v, r.mul)
		}
	}
}

// TestPairsWhole holds every pair against numbers of any length.
func TestPairsWhole(t *testing.T) {
	for _, a := range numbers() {
		for _, b := range numbers() {
			if v, want := sat.Add(a, b), held(new(big.Int).Add(whole(a), whole(b))); v != want {
				t.Errorf("P1.1: Add(%d, %d): %d; want %d", a, b, v, want)
			}
			if v, want := sat.Sub(a, b), held(new(big.Int).Sub(whole(a), whole(b))); v != want {
				t.Errorf("P1.1: Sub(%d, %d): %d; want %d", a, b, v, want)
			}
			if v, want := sat.Mul(a, b), held(new(big.Int).Mul(whole(a), whole(b))); v != want {
				t.Errorf("P1.1: Mul(%d, %d): %d; want %d", a, b, v, want)
			}
		}
	}
}

// TestMore: what follows: more is never less.
func TestMore(t *testing.T) {
	l := numbers()
	for i := 1; i < len(l); i++ {
		less, more := l[i-1], l[i]
		if sat.Int(more) < sat.Int(less) {
			t.Errorf("Int(%d) is below Int(%d)", more, less)
		}
		for _, b := range l {
			if sat.Add(more, b) < sat.Add(less, b) || sat.Add(b, more) < sat.Add(b, less) {
				t.Errorf("Add of %d and %d is below that of %d", more, b, less)
			}
			if sat.Mul(more, b) < sat.Mul(less, b) || sat.Mul(b, more) < sat.Mul(b, less) {
				t.Errorf("Mul of %d and %d is below that of %d", more, b, less)
			}
			if sat.Sub(more, b) < sat.Sub(less, b) {
				t.Errorf("Sub(%d, %d) is below Sub(%d, %d)", more, b, less, b)
			}
			if sat.Sub(b, more) > sat.Sub(b, less) {
				t.Errorf("Sub(%d, %d) is above Sub(%d, %d)", b, more, b, less)
			}
			if sat.Add(less, b) < max(less, b) || sat.Sub(less, b) > less {
				t.Errorf("%d and %d: Add is below one of them, or Sub above the first", less, b)
			}
		}
	}
}

// ones: n times v.
func ones(n int, v uint64) []uint64 { return slices.Repeat([]uint64{v}, n) }

func TestSum(t *testing.T) {
	for i, r := range []struct {
		l    []uint64
		want uint64
		err  api.Errno
	}{
		{nil, 0, api.OK},
		{[]uint64{}, 0, api.OK},
		{[]uint64{0}, 0, api.OK},
		{[]uint64{7}, 7, api.OK},
		{[]uint64{mostInt}, mostInt, api.OK},
		{[]uint64{most}, most, api.OK},
		{[]uint64{0, 0, 0}, 0, api.OK},
		{[]uint64{1, 2, 3}, 6, api.OK},
		{[]uint64{most - 1, 1}, most, api.OK},
		{[]uint64{1, most - 1}, most, api.OK},
		{[]uint64{most, 0, 0}, most, api.OK},
		{[]uint64{0, 0, most}, most, api.OK},
		{[]uint64{mostInt, mostInt, 1}, most, api.OK},
		{[]uint64{most / 3, most / 3, most / 3}, most, api.OK},
		{[]uint64{most - 1, 2}, 0, api.ErrOver},
		{[]uint64{most, 1}, 0, api.ErrOver},
		{[]uint64{1, most}, 0, api.ErrOver},
		{[]uint64{most, most}, 0, api.ErrOver},
		{[]uint64{mostInt, mostInt, 2}, 0, api.ErrOver},
		{[]uint64{mostInt, mostInt, 1, 1}, 0, api.ErrOver},
		{[]uint64{mostInt + 1, mostInt + 1}, 0, api.ErrOver},
		{[]uint64{most, 1, 0}, 0, api.ErrOver},
		{[]uint64{most, 1, 5, 6}, 0, api.ErrOver},
		{[]uint64{most, 1, most, 1}, 0, api.ErrOver},
		{[]uint64{most, 0, 0, 1}, 0, api.ErrOver},
		{ones(1_000, 1), 1_000, api.OK},
		{ones(255, 1<<56), 255 << 56, api.OK},
		{ones(256, 1<<56), 0, api.ErrOver},
		{ones(512, 1<<56), 0, api.ErrOver},
		{append(ones(255, 1<<56), 1<<56-1), most, api.OK},
		{append(ones(255, 1<<56), 1<<56), 0, api.ErrOver},
	} {
		if v, err := sat.Sum(r.l...); v != r.want || err != r.err {
			t.Errorf("P1.1: row %d: Sum: %d, error %d; want %d, %d", i, v, err, r.want, r.err)
		}
	}
	if v, err := sat.Sum(); v != 0 || err != api.OK {
		t.Errorf("P1.1: Sum of none: %d, error %d; want 0, 0", v, err)
	}
}

// TestSumWhole holds sums of three against numbers of any length, and in every turn of the three.
func TestSumWhole(t *testing.T) {
	for _, a := range edges() {
		for _, b := range edges() {
			for _, c := range edges() {
				all := new(big.Int).Add(whole(a), whole(b))
				all.Add(all, whole(c))
				want, wantErr := uint64(0), api.ErrOver
				if all.IsUint64() {
					want, wantErr = all.Uint64(), api.OK
				}
				if v, err := sat.Sum(a, b, c); v != want || err != wantErr {
					t.Fatalf("P1.1: Sum(%d, %d, %d): %d, error %d; want %d, %d", a, b, c, v, err, want, wantErr)
				}
			}
		}
	}
}

// TestSumKeeps: R3: the list that is handed in, and the room behind its end, stay as they are.
func TestSumKeeps(t *testing.T) {
	for _, room := range [][]uint64{{1, 2, 3, 9, 9}, {most, 1, 3, 9, 9}} {
		before := slices.Clone(room)
		sat.Sum(room[:3]...)
		if !slices.Equal(room, before) {
			t.Errorf("R3: Sum changed what it was given: %d; want %d", room, before)
		}
	}
}

func TestInt(t *testing.T) {
	for _, r := range []struct {
		v    uint64
		want int
	}{
		{0, 0}, {1, 1}, {5, 5}, {1 << 32, 1 << 32}, {1<<31 - 1, 1<<31 - 1}, {1 << 31, 1 << 31},
		{mostInt - 1, mostInt - 1}, {mostInt, mostInt}, {mostInt + 1, mostInt}, {mostInt + 2, mostInt},
		{most - 1, mostInt}, {most, mostInt},
	} {
		if n := sat.Int(r.v); n != r.want {
			t.Errorf("P1.1: Int(%d): %d; want %d", r.v, n, r.want)
		}
	}
}
