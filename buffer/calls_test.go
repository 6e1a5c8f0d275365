package buffer_test

import (
	"math"
	"testing"

	"canter/api"
	"canter/buffer"
)

// least: numbers below 1.
func least() []int {
	return []int{math.MinInt, math.MinInt + 1, -1 << 32, -maxBuffer, -100, -2, -1, 0}
}

// greatest: numbers above all that a buffer has room for.
func greatest() []int {
	return []int{maxBuffer + 1, 1<<32 + 1, 1 << 62, math.MaxInt - maxBuffer, math.MaxInt - 1, math.MaxInt}
}

func TestWriteArg(t *testing.T) {
	for _, row := range [][4]int{{0, 0, 0, 0}, {1, 0, 0, 0}, {10, 4, 3, 2}, {10, 10, 5, 0}, {10, 10, 10, 10}, {maxBuffer, maxBuffer, 1, 1}} {
		for _, n := range least() {
			// In a full one as well: ErrArg counts ahead of ErrFull.
			b := made(t, row[0], row[1], row[2], row[3])
			write(t, b, n, errArg)
			holds(t, b, uint64(row[1]-row[2]), uint64(row[1]-row[3]), uint64(row[1]))
		}
	}
}

func TestWriteFull(t *testing.T) {
	for _, row := range []struct{ room, written, taken, base, left int }{
		{0, 0, 0, 0, 0},
		{1, 0, 0, 0, 1}, {1, 1, 0, 0, 0}, {1, 1, 1, 0, 0}, {1, 1, 1, 1, 1},
		{10, 0, 0, 0, 10}, {10, 1, 0, 0, 9}, {10, 9, 0, 0, 1}, {10, 10, 0, 0, 0},
		// What was taken stays held; what was acknowledged does not.
		{10, 10, 10, 0, 0}, {10, 10, 10, 1, 1}, {10, 10, 6, 4, 4}, {10, 7, 5, 5, 8}, {10, 10, 10, 10, 10},
		{maxBuffer, 0, 0, 0, maxBuffer}, {maxBuffer, 1, 1, 0, maxBuffer - 1}, {maxBuffer, maxBuffer, 7, 3, 3}, {maxBuffer, maxBuffer, maxBuffer, maxBuffer, maxBuffer},
	} {
		unsent, held, written := uint64(row.written-row.taken), uint64(row.written-row.base), uint64(row.written)
		for _, n := range append(greatest(), row.left+1, row.left+2) {
			b := made(t, row.room, row.written, row.taken, row.base)
			write(t, b, n, errFull)
			holds(t, b, unsent, held, written)
		}
		for _, n := range []int{1, row.left - 1, row.left} {
			if n < 1 || n > row.left {
				continue
			}
			b := made(t, row.room, row.written, row.taken, row.base)
			write(t, b, n, ok)
			holds(t, b, unsent+uint64(n), held+uint64(n), written+uint64(n))
			// And no more than was left, in all.
			write(t, b, row.left-n+1, errFull)
			holds(t, b, unsent+uint64(n), held+uint64(n), written+uint64(n))
		}
		if t.Failed() {
			t.Fatalf("P21.1: Write: the row %+v", row)
		}
	}
}

// TestWriteRefused: behind what is refused as much is taken, and written, as if it had not come.
func TestWriteRefused(t *testing.T) {
	b := made(t, 10, 6, 2, 1)
	write(t, b, 6, errFull)
	write(t, b, 0, errArg)
	take(t, b, 1, 2, 3)
	write(t, b, math.MaxInt, errFull)
	take(t, b, 100, 3, 6)
	write(t, b, 5, ok)
	take(t, b, 100, 6, 11)
}

func TestTake(t *testing.T) {
	for _, row := range []struct {
		written, taken, base int
		most                 []int
		to                   uint64
	}{
		{5, 0, 0, []int{1}, 1}, {5, 0, 0, []int{3}, 3}, {5, 0, 0, []int{4}, 4},
		{5, 0, 0, []int{5, 6, 7, 100, maxBuffer}, 5},
		{5, 2, 0, []int{1}, 3}, {5, 2, 2, []int{2}, 4}, {5, 2, 1, []int{3, 4, 5}, 5},
		{5, 4, 4, []int{1, 2, 5}, 5},
		{maxBuffer, 0, 0, []int{1}, 1}, {maxBuffer, 0, 0, []int{maxBuffer - 1}, maxBuffer - 1},
		{maxBuffer, 0, 0, []int{maxBuffer, maxBuffer + 1}, maxBuffer},
		{maxBuffer, maxBuffer - 1, 0, []int{1, 2, maxBuffer}, maxBuffer},
	} {
		most := row.most
		if row.to == uint64(row.written) {
			most = append(most, greatest()...)
		}
		for _, n := range most {
			b := made(t, maxBuffer, row.written, row.taken, row.base)
			take(t, b, n, uint64(row.taken), row.to)
			holds(t, b, uint64(row.written)-row.to, uint64(row.written-row.base), uint64(row.written))
			// What comes behind it begins where it ended.
			if row.to == uint64(row.written) {
				takeNone(t, b, 1)
			} else {
				take(t, b, 1, row.to, row.to+1)
			}
		}
		if t.Failed() {
			t.Fatalf("P21.1: Take: the row %+v", row)
		}
	}
}

func TestTakeNone(t *testing.T) {
	for _, row := range [][4]int{{0, 0, 0, 0}, {10, 0, 0, 0}, {10, 4, 4, 0}, {10, 4, 4, 2}, {10, 10, 10, 10}, {maxBuffer, maxBuffer, maxBuffer, 0}} {
		b := made(t, row[0], row[1], row[2], row[3])
		for _, n := range append(append(least(), greatest()...), 1, 2, maxBuffer) {
			takeNone(t, b, n)
			holds(t, b, 0, uint64(row[1]-row[3]), uint64(row[1]))
		}
	}
}

func TestTakeArg(t *testing.T) {
	b := made(t, 10, 7, 2, 1)
	for _, n := range least() {
		takeNone(t, b, n)
		holds(t, b, 5, 6, 7)
	}
	take(t, b, 1, 2, 3)
}

func TestAcked(t *testing.T) {
	for _, row := range []struct {
		written, taken, base int
		upto                 uint64
		then                 int // base
	}{
		{0, 0, 0, 0, 0}, {5, 0, 0, 0, 0},
		{5, 3, 0, 0, 0}, {5, 3, 0, 1, 1}, {5, 3, 0, 2, 2}, {5, 3, 0, 3, 3},
		// Below base, at it, and above it.
		{9, 7, 4, 0, 4}, {9, 7, 4, 3, 4}, {9, 7, 4, 4, 4}, {9, 7, 4, 5, 5}, {9, 7, 4, 6, 6}, {9, 7, 4, 7, 7},
		{9, 9, 4, 8, 8}, {9, 9, 4, 9, 9}, {9, 9, 9, 9, 9}, {9, 9, 9, 8, 9}, {9, 9, 9, 0, 9},
		{maxBuffer, maxBuffer, 0, maxBuffer - 1, maxBuffer - 1}, {maxBuffer, maxBuffer, 0, maxBuffer, maxBuffer},
	} {
		b := made(t, maxBuffer, row.written, row.taken, row.base)
		acked(t, b, row.upto, ok)
		holds(t, b, uint64(row.written-row.taken), uint64(row.written-row.then), uint64(row.written))
		// There is room for as many more, and not for one beside them.
		write(t, b, maxBuffer-row.written+row.then+1, errFull)
		if t.Failed() {
			t.Fatalf("P21.1: Acked: the row %+v", row)
		}
	}
}

func TestAckedErr(t *testing.T) {
	for _, row := range [][3]int{{0, 0, 0}, {5, 0, 0}, {5, 3, 0}, {5, 3, 2}, {5, 3, 3}, {5, 4, 1}, {5, 5, 0}, {5, 5, 5}, {maxBuffer, 7, 2}, {maxBuffer, maxBuffer, 1}} {
		b := made(t, maxBuffer, row[0], row[1], row[2])
		taken := uint64(row[1])
		for _, upto := range []uint64{taken + 1, taken + 2, max(taken+1, uint64(row[0])), uint64(row[0]) + 1, maxBuffer + 1, 1 << 32, 1 << 62, 1 << 63, math.MaxUint64 - 1, math.MaxUint64} {
			acked(t, b, upto, errAck)
			holds(t, b, uint64(row[0]-row[1]), uint64(row[0]-row[2]), uint64(row[0]))
		}
		// As much may be acknowledged as could be ahead of what was refused.
		acked(t, b, taken, ok)
		holds(t, b, uint64(row[0]-row[1]), uint64(row[0]-row[1]), uint64(row[0]))
	}
}

// TestOn: numbers go on where room comes again: a buffer is for so many bytes at once, not in all.
func TestOn(t *testing.T) {
	b := buffer.New(maxBuffer)
	var at uint64
	for range 100 {
		write(t, b, maxBuffer, ok)
		write(t, b, 1, errFull)
		holds(t, b, maxBuffer, maxBuffer, at+maxBuffer)
		take(t, b, maxBuffer-1, at, at+maxBuffer-1)
		acked(t, b, at+maxBuffer, errAck)
		take(t, b, maxBuffer, at+maxBuffer-1, at+maxBuffer)
		holds(t, b, 0, maxBuffer, at+maxBuffer)
		at += maxBuffer
		acked(t, b, at+1, errAck)
		acked(t, b, at, ok)
		holds(t, b, 0, 0, at)
	}
}

// TestCalls: what was taken once is told no more, whatever is acknowledged of it, and when.
func TestCalls(t *testing.T) {
	b := buffer.New(10)
	write(t, b, 4, ok)
	holds(t, b, 4, 4, 4)
	take(t, b, 3, 0, 3)
	holds(t, b, 1, 4, 4)
	acked(t, b, 4, errAck)
	holds(t, b, 1, 4, 4)
	acked(t, b, 2, ok)
	holds(t, b, 1, 2, 4)
	write(t, b, 9, errFull)
	holds(t, b, 1, 2, 4)
	write(t, b, 8, ok)
	holds(t, b, 9, 10, 12)
	acked(t, b, 1, ok)
	holds(t, b, 9, 10, 12)
	take(t, b, 2, 3, 5)
	holds(t, b, 7, 10, 12)
	takeNone(t, b, 0)
	holds(t, b, 7, 10, 12)
	acked(t, b, 5, ok)
	holds(t, b, 7, 7, 12)
	take(t, b, 8, 5, 12)
	holds(t, b, 0, 7, 12)
	takeNone(t, b, 8)
	acked(t, b, 12, ok)
	holds(t, b, 0, 0, 12)
	write(t, b, 10, ok)
	holds(t, b, 10, 10, 22)
	take(t, b, 10, 12, 22)
	if b.Acked(23) != api.Errno(errAck) {
		t.Error("P21.1: Acked(23) of 22 that were taken")
	}
	holds(t, b, 0, 10, 22)
}
