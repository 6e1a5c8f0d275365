package wide_test

import (
	"math/big"
	"slices"
	"testing"

	"canter/api"
	"canter/wide"
)

const (
	most = 1<<64 - 1
	half = 1 << 63
	root = 1 << 32 // of 2^64
)

// edges: rising; 0, 2^32, 2^63, 2^64 - 1 and what is beside them, with ordinary numbers between.
func edges() []uint64 {
	return []uint64{
		0, 1, 2, 3, 5, 7, 10, 255, 256, 1_000_000_000,
		root - 2, root - 1, root, root + 1, root + 2,
		most / 3, most/3 + 1, 1<<62 - 1, 1 << 62, 1<<62 + 1,
		half - 2, half - 1, half, half + 1, half + 2,
		most - 3, most - 2, most - 1, most,
	}
}

// numbers: the edges, and some from a short rule of their own, spread over all sizes.
func numbers() []uint64 {
	l := edges()
	x := uint64(88172645463325252)
	for i := range 40 {
		x ^= x << 13
		x ^= x >> 7
		x ^= x << 17
		l = append(l, x>>(i*3%64))
	}
	slices.Sort(l)
	return slices.Compact(l)
}

func whole(v uint64) *big.Int { return new(big.Int).SetUint64(v) }

// pair: hi times 2^64 and lo.
func pair(hi, lo uint64) *big.Int {
	n := new(big.Int).Lsh(whole(hi), 64)
	return n.Add(n, whole(lo))
}

func TestMul(t *testing.T) {
	for i, r := range []struct{ a, b, hi, lo uint64 }{
		{0, 0, 0, 0},
		{0, most, 0, 0},
		{most, 0, 0, 0},
		{1, 1, 0, 1},
		{6, 7, 0, 42},
		{1, most, 0, most},
		{most, 1, 0, most},
		{2, half - 1, 0, most - 1},
		{2, half, 1, 0},
		{2, half + 1, 1, 2},
		{3, most / 3, 0, most},
		{3, most/3 + 1, 1, 2},
		{root - 1, root - 1, 0, most - 2*root + 2},
		{root - 1, root, 0, most - root + 1},
		{root - 1, root + 1, 0, most},
		{root, root, 1, 0},
		{root + 1, root + 1, 1, 2*root + 1},
		{half, half, 1 << 62, 0},
		{2, most, 1, most - 1},
		{most, 2, 1, most - 1},
		{most - 1, most - 1, most - 3, 4},
		{most - 1, most, most - 2, 2},
		{most, most, most - 1, 1},
	} {
		if hi, lo := wide.Mul(r.a, r.b); hi != r.hi || lo != r.lo {
			t.Errorf("P2.1: row %d: Mul(%d, %d): %d, %d; want %d, %d", i, r.a, r.b, hi, lo, r.hi, r.lo)
		}
	}
}

func TestMulWhole(t *testing.T) {
	for _, a := range numbers() {
		for _, b := range numbers() {
			hi, lo := wide.Mul(a, b)
			if want := new(big.Int).Mul(whole(a), whole(b)); pair(hi, lo).Cmp(want) != 0 {
				t.Errorf("P2.1: Mul(%d, %d): %d, %d; want %v", a, b, hi, lo, want)
			}
		}
	}
}

func TestDiv(t *testing.T) {
	for i, r := range []struct {
		hi, lo, c, want uint64
		err             api.Errno
	}{
		{0, 0, 1, 0, api.OK},
		{0, 0, most, 0, api.OK},
		{0, 21, 2, 10, api.OK},
		{0, 20, 2, 10, api.OK},
		{0, 19, 2, 9, api.OK},
		{0, 6, 7, 0, api.OK},
		{0, 7, 7, 1, api.OK},
		{0, 8, 7, 1, api.OK},
		{0, most, 1, most, api.OK},
		{0, most, most, 1, api.OK},
		{0, most - 1, most, 0, api.OK},
		{0, half, half, 1, api.OK},
		{0, half - 1, half, 0, api.OK},
		{1, 0, 2, half, api.OK},
		{1, 0, 3, most / 3, api.OK},
		{1, 2, 3, most/3 + 1, api.OK},
		{1, 0, root, root, api.OK},
		{1, most, 2, most, api.OK},
		{half - 1, most, half, most, api.OK},
		{half, 0, half + 1, most - 1, api.OK},
		{half, 1, half + 1, most - 1, api.OK},
		{half, half + 1, half + 1, most, api.OK},
		{most - 1, 0, most, most - 1, api.OK},
		{most - 1, 1, most, most, api.OK},
		{most - 1, most, most, most, api.OK},

		{1, 0, 1, 0, api.ErrOver},
		{2, 0, 2, 0, api.ErrOver},
		{2, most, 2, 0, api.ErrOver},
		{3, 0, 2, 0, api.ErrOver},
		{half, 0, half, 0, api.ErrOver},
		{most, 0, most, 0, api.ErrOver},
		{most, most, most, 0, api.ErrOver},
		{most, most, 1, 0, api.ErrOver},

		{0, 0, 0, 0, api.ErrArg},
		{0, 1, 0, 0, api.ErrArg},
		{1, 0, 0, 0, api.ErrArg},
		{most, most, 0, 0, api.ErrArg},
	} {
		if v, err := wide.Div(r.hi, r.lo, r.c); v != r.want || err != r.err {
			t.Errorf("P2.1: row %d: Div(%d, %d, %d): %d, error %d; want %d, %d", i, r.hi, r.lo, r.c, v, err, r.want, r.err)
		}
	}
}

// divWant: what Div is to answer, by numbers of any length.
func divWant(hi, lo, c uint64) (uint64, api.Errno) {
	if c == 0 {
		return 0, api.ErrArg
	}
	q := new(big.Int).Div(pair(hi, lo), whole(c))
	if !q.IsUint64() {
		return 0, api.ErrOver
	}
	return q.Uint64(), api.OK
}

func TestDivWhole(t *testing.T) {
	for _, hi := range numbers() {
		for _, lo := range numbers() {
			for _, c := range numbers() {
				want, wantErr := divWant(hi, lo, c)
				if v, err := wide.Div(hi, lo, c); v != want || err != wantErr {
					t.Fatalf("P2.1: Div(%d, %d, %d): %d, error %d; want %d, %d", hi, lo, c, v, err, want, wantErr)
				}
			}
		}
	}
}

// TestDivBack: what was multiplied, with less than c beside it, comes back; c more than the greatest of these is too much.
func TestDivBack(t *testing.T) {
	for _, c := range numbers()[1:] {
		for _, q := range numbers() {
			hi, lo := wide.Mul(q, c)
			if v, err := wide.Div(hi, lo, c); v != q || err != api.OK {
				t.Fatalf("P2.1: %d times %d, divided by it: %d, error %d", q, c, v, err)
			}
			n := new(big.Int).Add(pair(hi, lo), whole(c-1))
			lo = new(big.Int).And(n, whole(most)).Uint64()
			hi = n.Rsh(n, 64).Uint64()
			if v, err := wide.Div(hi, lo, c); v != q || err != api.OK {
				t.Fatalf("P2.1: %d times %d and %d, divided by it: %d, error %d", q, c, c-1, v, err)
			}
		}
		if v, err := wide.Div(c, 0, c); v != 0 || err != api.ErrOver {
			t.Fatalf("P2.1: Div(%d, 0, %d): %d, error %d; want 0, %d", c, c, v, err, api.ErrOver)
		}
		if v, err := wide.Div(c-1, most, c); v != most || err != api.OK {
			t.Fatalf("P2.1: Div(%d, %d, %d): %d, error %d; want the most", c-1, uint64(most), c, v, err)
		}
	}
}

func TestMulDiv(t *testing.T) {
	for i, r := range []struct{ a, b, c, want uint64 }{
		{7, 3, 2, 10},
		{3, 7, 2, 10},
		{4, 5, 2, 10},
		{1, 1, 2, 0},
		{1, 1, 1, 1},
		{1_500, 1_000_000_000, 1_000_000, 1_500_000},
		{most, 1, 1, most},
		{most, most, most, most},
		{most, most - 1, most, most - 1},
		{most - 1, most - 1, most, most - 2},
		{half, half, half, half},
		{root, root, 2, half},
		{root, root, 1, most},
		{half, 2, 1, most},
		{half, 2, 2, half},
		{root - 1, root + 1, 1, most},
		{most, 2, 2, most},
		{most, 3, 2, most},
		{most, most, most - 1, most},
		{most - 1, most, most - 2, most},
		{most, most, 1, most},

		{0, 0, 0, 0},
		{0, 5, 0, 0},
		{5, 0, 0, 0},
		{0, most, 0, 0},
		{most, 0, 0, 0},
		{0, 0, 1, 0},
		{0, most, most, 0},
		{most, 0, 1, 0},
		{1, 1, 0, most},
		{root, root, 0, most}, // a product whose lower half is 0 is not 0
		{half, 2, 0, most},
		{most, most, 0, most},
	} {
		if v := wide.MulDiv(r.a, r.b, r.c); v != r.want {
			t.Errorf("P2.1: row %d: MulDiv(%d, %d, %d): %d; want %d", i, r.a, r.b, r.c, v, r.want)
		}
	}
}

// mulDivWant: what MulDiv is to answer, by numbers of any length.
func mulDivWant(a, b, c uint64) uint64 {
	n := new(big.Int).Mul(whole(a), whole(b))
	switch {
	case n.Sign() == 0:
		return 0
	case c == 0:
		return most
	}
	if n.Div(n, whole(c)); !n.IsUint64() {
		return most
	}
	return n.Uint64()
}

func TestMulDivWhole(t *testing.T) {
	for _, a := range numbers() {
		for _, b := range numbers() {
			for _, c := range numbers() {
				if v, want := wide.MulDiv(a, b, c), mulDivWant(a, b, c); v != want {
					t.Fatalf("P2.1: MulDiv(%d, %d, %d): %d; want %d", a, b, c, v, want)
				}
			}
		}
	}
}

// near: whether q times c is no more than n, and less than c away.
func near(n *big.Int, q, c uint64) bool {
	away := new(big.Int).Sub(n, new(big.Int).Mul(whole(q), whole(c)))
	return away.Sign() >= 0 && away.Cmp(whole(c)) < 0
}

// TestNear: what follows: what is divided, times what it was divided by, is no more than it was, and less than one such away.
func TestNear(t *testing.T) {
	for _, a := range numbers() {
		for _, b := range numbers() {
			n := new(big.Int).Mul(whole(a), whole(b))
			for _, c := range numbers()[1:] {
				if q, err := wide.Div(a, b, c); err == api.OK && !near(pair(a, b), q, c) {
					t.Fatalf("Div(%d, %d, %d): %d, which times %d is not near", a, b, c, q, c)
				}
				if q := wide.MulDiv(a, b, c); q < most && !near(n, q, c) {
					t.Fatalf("MulDiv(%d, %d, %d): %d, which times %d is not near", a, b, c, q, c)
				}
			}
		}
	}
}
