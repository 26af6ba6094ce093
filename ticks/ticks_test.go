package ticks_test

import (
	"math"
	"math/big"
	"testing"

	"jobmux/ticks"
)

const most = uint64(math.MaxUint64)

// numbers and exponents ascend; they lie on both sides of every place where a result begins to saturate.
var (
	numbers   = []uint64{0, 1, 2, 3, 7, 100, 1000, 1<<32 - 1, 1 << 32, 1<<32 + 1, 1<<62 - 1, 1 << 62, 1<<63 - 1, 1 << 63, 1<<63 + 1, most - 1, most}
	exponents = []int{math.MinInt, -64, -1, 0, 1, 2, 3, 4, 31, 32, 33, 61, 62, 63, 64, 65, 127, 128, 1 << 20, math.MaxInt}
)

// exact returns a number that cannot overflow.
func exact(a uint64) *big.Int { return new(big.Int).SetUint64(a) }

// product returns a * 2^n without overflow. 2^64 stands for all greater powers of 2, as both are too great unless a is 0.
func product(a uint64, n int) *big.Int {
	return new(big.Int).Lsh(exact(a), uint(min(max(n, 0), 64)))
}

// bounded returns the number of 64 bits that is nearest to x.
func bounded(x *big.Int) uint64 {
	if x.Sign() < 0 {
		return 0
	}
	if !x.IsUint64() {
		return most
	}
	return x.Uint64()
}

// P1.1: Add.
func TestAdd(t *testing.T) {
	for _, c := range []struct{ a, b, want uint64 }{
		{0, 0, 0},
		{3, 5, 8},
		{1<<32 - 1, 1, 1 << 32},
		{1<<63 - 1, 1 << 63, most},
		{1 << 63, 1 << 63, most},
		{1<<63 + 4, 1<<63 + 6, most},
		{most - 1, 1, most},
		{most, 0, most},
		{0, most, most},
		{most, 1, most},
		{1, most, most},
		{most, 5, most},
		{most, most, most},
	} {
		if got := ticks.Add(c.a, c.b); got != c.want {
			t.Errorf("Add(%d, %d) = %d, want %d", c.a, c.b, got, c.want)
		}
	}
}

// P1.1: Sub.
func TestSub(t *testing.T) {
	for _, c := range []struct{ a, b, want uint64 }{
		{0, 0, 0},
		{5, 3, 2},
		{3, 5, 0},
		{5, 5, 0},
		{0, 1, 0},
		{0, most, 0},
		{most - 1, most, 0},
		{most, most, 0},
		{most, most - 1, 1},
		{most, 0, most},
		{1 << 63, 1<<63 - 1, 1},
		{1<<63 - 1, 1 << 63, 0},
	} {
		if got := ticks.Sub(c.a, c.b); got != c.want {
			t.Errorf("Sub(%d, %d) = %d, want %d", c.a, c.b, got, c.want)
		}
	}
}

// P1.1: Double.
func TestDouble(t *testing.T) {
	for _, c := range []struct {
		a    uint64
		n    int
		want uint64
	}{
		{5, 0, 5},
		{5, 1, 10},
		{5, 3, 40},
		{100, 3, 800},
		{5, -1, 5},
		{5, -64, 5},
		{5, math.MinInt, 5},
		{most, -1, most},
		{0, -1, 0},
		{0, 63, 0},
		{0, 64, 0},
		{0, 65, 0},
		{0, math.MaxInt, 0},
		{1, 63, 1 << 63},
		{1, 64, most},
		{1, 65, most},
		{1, 128, most},
		{1, math.MaxInt, most},
		{2, 62, 1 << 63},
		{2, 63, most},
		{3, 62, 3 << 62},
		{3, 63, most},
		{1<<32 + 1, 31, 1<<63 + 1<<31},
		{1<<32 + 1, 32, most},
		{1<<63 - 1, 1, most - 1},
		{1 << 63, 0, 1 << 63},
		{1 << 63, 1, most},
		{most, 0, most},
		{most, 1, most},
	} {
		if got := ticks.Double(c.a, c.n); got != c.want {
			t.Errorf("Double(%d, %d) = %d, want %d", c.a, c.n, got, c.want)
		}
	}
}

// P1.2: Delay.
func TestDelay(t *testing.T) {
	for _, c := range []struct {
		base, limit  uint64
		n            int
		jitter, want uint64
	}{
		{100, 1000, 0, 0, 100},
		{100, 1000, 3, 7, 807},
		{100, 1000, 4, 7, 1007},
		{100, 800, 3, 0, 800},
		{100, 799, 3, 0, 799},
		{100, 1000, 500, 0, 1000},
		{100, 1000, math.MaxInt, 0, 1000},
		{100, 1000, -1, 7, 107},
		{100, 1000, math.MinInt, 0, 100},
		{100, 50, 0, 1, 51},
		{100, 50, -1, 1, 51},
		{100, 0, 3, 7, 7},
		{0, 1000, 9, 5, 5},
		{0, 1000, math.MaxInt, 5, 5},
		{1, most, 63, 0, 1 << 63},
		{1, most, 63, 1<<63 - 2, most - 1},
		{1, most, 63, 1<<63 - 1, most},
		{1, most, 63, 1 << 63, most},
		{1, most, 64, 0, most},
		{1, most, 64, 1, most},
		{100, 1000, 4, most, most},
		{most, most, 9, most, most},
	} {
		if got := ticks.Delay(c.base, c.limit, c.n, c.jitter); got != c.want {
			t.Errorf("Delay(%d, %d, %d, %d) = %d, want %d", c.base, c.limit, c.n, c.jitter, got, c.want)
		}
	}
}

// The chapter's example 1 and example 1 of DOC.md.
func TestExamples(t *testing.T) {
	for _, c := range []struct {
		what      string
		got, want uint64
	}{
		{"Add(2^64 - 1, 5)", ticks.Add(most, 5), most},
		{"Delay(100, 1000, 3, 7)", ticks.Delay(100, 1000, 3, 7), 807},
		{"Delay(100, 1000, 4, 7)", ticks.Delay(100, 1000, 4, 7), 1007},
	} {
		if c.got != c.want {
			t.Errorf("%s = %d, want %d", c.what, c.got, c.want)
		}
	}
}

// P1.1 for all pairs of numbers, against arithmetic that cannot overflow.
func TestSumsExactly(t *testing.T) {
	for _, a := range numbers {
		for _, b := range numbers {
			if got, want := ticks.Add(a, b), bounded(new(big.Int).Add(exact(a), exact(b))); got != want {
				t.Errorf("Add(%d, %d) = %d, want %d", a, b, got, want)
			}
			if got, want := ticks.Sub(a, b), bounded(new(big.Int).Sub(exact(a), exact(b))); got != want {
				t.Errorf("Sub(%d, %d) = %d, want %d", a, b, got, want)
			}
		}
	}
}

// P1.1 for all numbers and exponents, against arithmetic that cannot overflow; with P1 for the extreme exponents.
func TestDoubleExactly(t *testing.T) {
	for _, a := range numbers {
		for _, n := range exponents {
			if got, want := ticks.Double(a, n), bounded(product(a, n)); got != want {
				t.Errorf("Double(%d, %d) = %d, want %d", a, n, got, want)
			}
		}
	}
}

// P1.2 for all arguments, against arithmetic that cannot overflow.
func TestDelayExactly(t *testing.T) {
	eachDelay(func(base, limit uint64, n int, jitter uint64) {
		least := exact(min(limit, bounded(product(base, n))))
		want := bounded(least.Add(least, exact(jitter)))
		if got := ticks.Delay(base, limit, n, jitter); got != want {
			t.Errorf("Delay(%d, %d, %d, %d) = %d, want %d", base, limit, n, jitter, got, want)
		}
	})
}

// eachDelay calls f with all arguments of a delay.
func eachDelay(f func(base, limit uint64, n int, jitter uint64)) {
	for _, base := range numbers {
		for _, limit := range numbers {
			for _, n := range exponents {
				for _, jitter := range numbers {
					f(base, limit, n, jitter)
				}
			}
		}
	}
}

// P2: Add is commutative and associative.
func TestAddOrder(t *testing.T) {
	for _, a := range numbers {
		for _, b := range numbers {
			if x, y := ticks.Add(a, b), ticks.Add(b, a); x != y {
				t.Errorf("Add(%d, %d) = %d, but %d the other way round", a, b, x, y)
			}
			for _, c := range numbers {
				left, right := ticks.Add(ticks.Add(a, b), c), ticks.Add(a, ticks.Add(b, c))
				if left != right {
					t.Errorf("%d + %d + %d: %d from the left, %d from the right", a, b, c, left, right)
				}
			}
		}
	}
}

// next returns the element after x in an ascending list, the last one after itself.
func next[T uint64 | int](l []T, x T) T {
	for _, y := range l {
		if y > x {
			return y
		}
	}
	return x
}

// P2: Delay does not decrease if any of its arguments grows.
func TestDelayGrows(t *testing.T) {
	eachDelay(func(base, limit uint64, n int, jitter uint64) {
		delay := ticks.Delay(base, limit, n, jitter)
		for i, grown := range []uint64{
			ticks.Delay(next(numbers, base), limit, n, jitter),
			ticks.Delay(base, next(numbers, limit), n, jitter),
			ticks.Delay(base, limit, next(exponents, n), jitter),
			ticks.Delay(base, limit, n, next(numbers, jitter)),
		} {
			if grown < delay {
				t.Errorf("Delay(%d, %d, %d, %d) = %d, but %d with a greater argument %d", base, limit, n, jitter, delay, grown, i)
			}
		}
	})
}

// P2: if base is not 0 and limit is at most base * 2^k, Delay is the same for all n from k on.
func TestDelaySettles(t *testing.T) {
	eachDelay(func(base, limit uint64, k int, jitter uint64) {
		if base == 0 || k < 0 || exact(limit).Cmp(product(base, k)) > 0 {
			return
		}
		want := ticks.Delay(base, limit, k, jitter)
		for _, n := range exponents {
			if n < k {
				continue
			}
			if got := ticks.Delay(base, limit, n, jitter); got != want {
				t.Errorf("Delay(%d, %d, %d, %d) = %d, but %d for %d", base, limit, n, jitter, got, want, k)
			}
		}
	})
}
