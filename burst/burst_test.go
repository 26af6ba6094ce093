package burst_test

import (
	"math"
	"math/rand/v2"
	"slices"
	"testing"

	"jobmux/burst"
)

const greatest = uint64(math.MaxUint64)

// times is a list, so that the tables below are short.
type times = []uint64

// P3.1: Trim.
func TestTrim(t *testing.T) {
	for _, c := range []struct {
		l           times
		now, window uint64
		want        times
	}{
		{times{1, 5, 8}, 10, 6, times{5, 8}},
		{times{1, 5, 8}, 10, 5, times{8}}, // the time that is window ago is old
		{times{1, 5, 8}, 10, 100, times{1, 5, 8}},
		{times{1, 5, 8}, 10, 2, nil},
		{times{1, 5, 8}, 8, 1, times{8}},
		{times{8, 1, 5, 9, 1, 8}, 10, 6, times{8, 5, 9, 8}},  // neither in order nor different
		{times{11, 1, greatest}, 10, 1, times{11, greatest}}, // times to come are 0 ago
		{times{11, 10, greatest}, 10, 0, nil},                // nothing is less than 0 ago
		{nil, 10, 5, nil},
		{times{}, 10, 5, nil},
		{times{0}, 0, 1, times{0}},
		{times{0, 1, greatest}, greatest, greatest, times{1, greatest}},
		{times{0, 1, greatest}, greatest, 1, times{greatest}},
		{times{0, 1, greatest}, 0, greatest, times{0, 1, greatest}},
		{times{0, 1<<63 - 1, 1 << 63, 1<<63 + 1}, greatest, 1 << 63, times{1 << 63, 1<<63 + 1}},
	} {
		if got := burst.Trim(c.l, c.now, c.window); !slices.Equal(got, c.want) {
			t.Errorf("Trim(%d, %d, %d) = %d, want %d", c.l, c.now, c.window, got, c.want)
		}
	}
}

// P3.2: Allow.
func TestAllow(t *testing.T) {
	for _, c := range []struct {
		l           times
		most        int
		now, window uint64
		want        times
		ok          bool
	}{
		{times{1, 5, 8}, 4, 10, 100, times{1, 5, 8, 10}, true},
		{times{1, 5, 8}, 3, 10, 100, times{1, 5, 8}, false}, // exactly as many as may be
		{times{1, 5, 8}, 2, 10, 100, times{1, 5, 8}, false},
		{times{1, 5, 8}, 3, 10, 9, times{5, 8, 10}, true}, // old times do not count
		{times{1, 5, 8}, 2, 10, 9, times{5, 8}, false},    // but are removed anyway
		{times{8, 1, 5}, 3, 7, 6, times{8, 5, 7}, true},   // now is at the end, also if a time is greater
		{times{7, 7}, 3, 7, 1, times{7, 7, 7}, true},
		{nil, 1, 10, 5, times{10}, true},
		{nil, 0, 10, 5, nil, false},
		{nil, -1, 10, 5, nil, false},
		{times{1, 9}, 0, 10, 5, times{9}, false},
		{times{1, 9}, -1, 10, 5, times{9}, false},
		{times{1, 9}, math.MinInt, 10, 5, times{9}, false},
		{times{1, 9}, math.MaxInt, 10, 5, times{9, 10}, true},
		{times{1, 10, 11}, 1, 10, 0, times{10}, true}, // without a window nothing counts
		{times{1, 10, 11}, 0, 10, 0, nil, false},
		{times{0, 1}, 2, greatest, greatest, times{1, greatest}, true},
		{times{0, 1}, 1, greatest, greatest, times{1}, false},
	} {
		got, ok := burst.Allow(c.l, c.most, c.now, c.window)
		if !slices.Equal(got, c.want) || ok != c.ok {
			t.Errorf("Allow(%d, %d, %d, %d) = %d, %t, want %d, %t", c.l, c.most, c.now, c.window, got, ok, c.want, c.ok)
		}
	}
}

// P3.3: Play; the first case is the chapter's example 1.
func TestPlay(t *testing.T) {
	for _, c := range []struct {
		most   int
		window uint64
		l      times
		want   []bool
	}{
		{2, 10, times{0, 5, 9, 10, 30}, []bool{true, true, false, true, true}},
		{1, 5, times{0, 4, 5, 9, 10}, []bool{true, false, true, false, true}},
		{1, 5, times{0, 1, 2, 3, 4, 5}, []bool{true, false, false, false, false, true}}, // what is not allowed does not count
		{3, 10, times{7, 7, 7, 7, 17}, []bool{true, true, true, false, true}},
		{2, 10, times{20, 3, 29, 30}, []bool{true, true, false, true}},                        // 3 counts as 20
		{3, 10, times{20, 3, 15, 25, 30}, []bool{true, true, true, false, true}},              // so does 15, though it is greater than 3
		{1, 5, times{20, 10, 19, 15, 24, 25}, []bool{true, false, false, false, false, true}}, // and if the restart is not allowed
		{2, 5, times{10, 12, 3, 15, 16, 17}, []bool{true, true, false, true, false, true}},
		{0, 10, times{1, 100}, []bool{false, false}},
		{math.MinInt, 0, times{1, 100}, []bool{false, false}},
		{1, 0, times{1, 1, 0, 1}, []bool{true, true, true, true}},
		{math.MaxInt, greatest, times{1, 1, 0, greatest}, []bool{true, true, true, true}},
		{1, greatest, times{0, greatest - 1, greatest, greatest}, []bool{true, false, true, false}},
		{5, 5, nil, nil},
		{5, 5, times{}, nil},
	} {
		if got := burst.Play(c.most, c.window, c.l); !slices.Equal(got, c.want) {
			t.Errorf("Play(%d, %d, %d) = %t, want %t", c.most, c.window, c.l, got, c.want)
		}
	}
}

// eachPlay calls f with arguments of Play. The times grow slowly from 0, 100 or near 2^64 on, and some of them are less than the one before.
func eachPlay(f func(most int, window uint64, l times)) {
	r := rand.New(rand.NewPCG(3, 1))
	for range 4000 {
		l := make(times, r.IntN(60))
		start := []uint64{0, 100, greatest - 200}[r.IntN(3)]
		for i := range l {
			l[i] = max(start+uint64(3*i)+r.Uint64N(20), 10) - r.Uint64N(10)
		}
		f(r.IntN(9)-2, r.Uint64N(30), l)
	}
}

// ascending returns the times of a list as they count: none is less than the one before.
func ascending(l times) times {
	l = slices.Clone(l)
	for i := 1; i < len(l); i++ {
		l[i] = max(l[i], l[i-1])
	}
	return l
}

// P3.3: each decision is that of Allow with what the one before returned.
func TestPlayIsAllow(t *testing.T) {
	eachPlay(func(most int, window uint64, l times) {
		got := burst.Play(most, window, l)
		if len(got) != len(l) {
			t.Fatalf("%d decisions about %d restarts", len(got), len(l))
		}
		var kept times
		for i, now := range ascending(l) {
			var want bool
			if kept, want = burst.Allow(kept, most, now, window); got[i] != want {
				t.Fatalf("Play(%d, %d, %d): decision %d is %t, want %t", most, window, l, i, got[i], want)
			}
		}
	})
}

// P2: of any restarts that were allowed, at most most lie within a span of less than window. P3: and one is refused only if there would be more.
func TestSpans(t *testing.T) {
	refused := 0
	eachPlay(func(most int, window uint64, l times) {
		l = ascending(l)
		var allowed times
		for i, ok := range burst.Play(most, window, l) {
			within := 0
			for _, at := range allowed {
				if l[i]-at < window {
					within++
				}
			}
			if ok != (within < most) {
				t.Fatalf("Play(%d, %d, %d): decision %d is %t, with %d restarts in the window", most, window, l, i, ok, within)
			}
			if ok {
				allowed = append(allowed, l[i])
			} else if most > 0 {
				refused++
			}
		}
	})
	if refused == 0 {
		t.Error("no restart was refused")
	}
}

// P2: if most is not positive, or window is 0 and most is positive, the answer is always the same.
func TestAlwaysTheSame(t *testing.T) {
	eachPlay(func(most int, window uint64, l times) {
		for _, c := range []struct {
			most   int
			window uint64
			want   bool
		}{{min(most, 0), window, false}, {min(most, 0), 0, false}, {max(most, 1), 0, true}} {
			if slices.Contains(burst.Play(c.most, c.window, l), !c.want) {
				t.Fatalf("Play(%d, %d, %d) is not always %t", c.most, c.window, l, c.want)
			}
		}
	})
}

// P1: an end comes soon also if all times of a long list count.
func TestLong(t *testing.T) {
	l := make(times, 1<<20)
	for i := range l {
		l[i] = uint64(i)
	}
	for _, window := range []uint64{0, 1, 1 << 19, greatest} {
		got := burst.Play(math.MaxInt, window, l)
		if len(got) != len(l) || slices.Contains(got, false) {
			t.Errorf("with a window of %d not all of %d restarts are allowed", window, len(l))
		}
	}
}

// Rules: arguments stay as they are, the memory behind them too, and results are new memory.
func TestNoSharing(t *testing.T) {
	memory := times{1, 5, 8, 40, 41}
	before := slices.Clone(memory)
	l := memory[:3]
	for _, c := range []struct {
		what string
		call func() times
		want times
	}{
		{"Trim of all", func() times { return burst.Trim(l, 10, 100) }, times{1, 5, 8}},
		{"Trim of some", func() times { return burst.Trim(l, 10, 9) }, times{5, 8}},
		{"Allow, allowed", func() times { l, _ := burst.Allow(l, 9, 10, 100); return l }, times{1, 5, 8, 10}},
		{"Allow, refused", func() times { l, _ := burst.Allow(l, 3, 10, 100); return l }, times{1, 5, 8}},
		{"Allow without old times", func() times { l, _ := burst.Allow(l, 3, 10, 9); return l }, times{5, 8, 10}},
	} {
		got := c.call()
		for i := range got {
			got[i] = 77
		}
		if !slices.Equal(memory, before) {
			t.Fatalf("%s: the argument and what is behind it are now %d", c.what, memory)
		}
		if again := c.call(); !slices.Equal(again, c.want) {
			t.Errorf("%s: after a change of a result %d, want %d", c.what, again, c.want)
		}
	}
	unordered := times{20, 3, 29, 30}
	if burst.Play(2, 10, unordered); !slices.Equal(unordered, times{20, 3, 29, 30}) {
		t.Errorf("Play made its argument %d", unordered)
	}
}
