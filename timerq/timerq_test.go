package timerq_test

import (
	"cmp"
	"math"
	"math/rand/v2"
	"reflect"
	"slices"
	"testing"

	"jobmux/api"
	"jobmux/timerq"
)

const most = uint64(math.MaxUint64)

// step is an operation and the reply that it must have.
type step struct {
	op   api.TimerOp
	want api.TimerReply
}

// The operations. Their fields without meaning are set, so that a test fails if one of them is used.
func set(id int, at uint64) api.TimerOp { return api.TimerOp{Kind: api.TimerSet, ID: id, At: at} }
func cancel(id int) api.TimerOp         { return api.TimerOp{Kind: api.TimerCancel, ID: id, At: 3} }
func advance(at uint64) api.TimerOp     { return api.TimerOp{Kind: api.TimerAdvance, ID: 1, At: at} }
func next() api.TimerOp                 { return api.TimerOp{Kind: api.TimerNext, ID: 1, At: 3} }

// done is the reply of a set or a cancel without an error, failed that of any operation with one.
var done = api.TimerReply{}

func failed(code api.Errno) api.TimerReply { return api.TimerReply{Code: code} }

// fired is the reply of an advance, or of a next.
func fired(at uint64, ids ...int) api.TimerReply { return api.TimerReply{Fired: ids, At: at} }

// same reports whether two replies are the same; a nil list and an empty one are.
func same(a, b api.TimerReply) bool {
	return a.Code == b.Code && a.At == b.At && slices.Equal(a.Fired, b.Fired)
}

// play carries out the operations of the steps and compares the replies.
func play(t *testing.T, steps []step) {
	t.Helper()
	ops := make([]api.TimerOp, len(steps))
	for i, s := range steps {
		ops[i] = s.op
	}
	got := timerq.Play(ops)
	if len(got) != len(steps) {
		t.Fatalf("%d replies to %d operations", len(got), len(steps))
	}
	for i, s := range steps {
		if !same(got[i], s.want) {
			t.Errorf("reply %d, to %+v: %+v, want %+v", i, s.op, got[i], s.want)
		}
	}
}

// P2.1: TimerSet.
func TestSet(t *testing.T) {
	play(t, []step{
		{set(4, 10), done},
		{set(4, 10), done}, // as it was
		{next(), fired(10, 4)},
		{set(5, 8), done},
		{next(), fired(8, 5)},
		{set(4, 7), done}, // earlier than it was
		{next(), fired(7, 4)},
		{set(4, 9), done}, // later than it was
		{next(), fired(8, 5)},
		{advance(8), fired(8, 5)},
		{advance(9), fired(9, 4)},
		{advance(20), fired(20)},
		{set(4, 21), done}, // after it has fired
		{set(0, 3), done},  // a time that has gone by
		{next(), fired(3, 0)},
		{advance(20), fired(20, 0)},
		{set(math.MaxInt, most), done},
		{set(0, 0), done},
		{advance(most), fired(most, 0, 4, math.MaxInt)},
	})
}

// P2.1: ErrRange of TimerSet.
func TestSetNegative(t *testing.T) {
	play(t, []step{
		{set(-1, 5), failed(api.ErrRange)},
		{set(math.MinInt, 5), failed(api.ErrRange)},
		{next(), failed(api.ErrUnknown)},
		{cancel(-1), failed(api.ErrUnknown)},
		{advance(9), fired(9)},
	})
}

// full returns steps that set as many timers as there may be, ID i at 1000 + i.
func full() []step {
	var l []step
	for id := range api.MaxTimers {
		l = append(l, step{set(id, uint64(1000+id)), done})
	}
	return l
}

// P2.1: ErrLimit of TimerSet, and that ErrRange is before it.
func TestSetLimit(t *testing.T) {
	steps := append(full(), []step{
		{set(api.MaxTimers, 1), failed(api.ErrLimit)},
		{set(-1, 1), failed(api.ErrRange)},
		{next(), fired(1000, 0)},
		{cancel(api.MaxTimers), failed(api.ErrUnknown)},
		{set(7, 1), done}, // one that is there is not one more
		{next(), fired(1, 7)},
		{set(999, 1), failed(api.ErrLimit)},
		{cancel(7), done},
		{set(999, 1), done},
		{set(998, 1), failed(api.ErrLimit)},
		{advance(1), fired(1, 999)},
		{set(998, 1), done},
		{set(997, 1), failed(api.ErrLimit)},
	}...)
	var rest []int
	for id := range api.MaxTimers {
		if id != 7 {
			rest = append(rest, id)
		}
	}
	play(t, append(steps, step{advance(most), fired(most, append([]int{998}, rest...)...)}))
}

// P2.1: TimerCancel.
func TestCancel(t *testing.T) {
	play(t, []step{
		{cancel(0), failed(api.ErrUnknown)},
		{set(1, 5), done},
		{set(2, 5), done},
		{set(3, 6), done},
		{cancel(0), failed(api.ErrUnknown)},
		{cancel(1), done}, // the first one
		{cancel(1), failed(api.ErrUnknown)},
		{next(), fired(5, 2)},
		{cancel(3), done}, // the last one
		{advance(9), fired(9, 2)},
		{cancel(2), failed(api.ErrUnknown)}, // it has fired
		{cancel(-1), failed(api.ErrUnknown)},
		{set(1, 5), done}, // anew
		{next(), fired(5, 1)},
		{cancel(1), done},
		{next(), failed(api.ErrUnknown)},
		{advance(most), fired(most)},
	})
}

// P2.1: TimerAdvance, whose clock begins with 0 and never goes back.
func TestAdvance(t *testing.T) {
	play(t, []step{
		{advance(0), fired(0)},
		{set(6, 0), done},
		{set(5, 1), done},
		{advance(0), fired(0, 6)},
		{set(4, 10), done},
		{set(3, 11), done},
		{set(2, 10), done},
		{advance(9), fired(9, 5)},
		{advance(10), fired(10, 2, 4)},
		{advance(10), fired(10)},
		{set(9, 8), done},
		{advance(4), fired(10, 9)}, // back: the clock stays, and what is due by it fires
		{advance(0), fired(10)},
		{set(1, most-1), done},
		{set(0, most), done},
		{advance(most - 1), fired(most-1, 3, 1)},
		{advance(most), fired(most, 0)},
		{advance(1), fired(most)},
	})
}

// P2.1: TimerNext, which removes nothing and does not look at the clock.
func TestNext(t *testing.T) {
	play(t, []step{
		{next(), failed(api.ErrUnknown)},
		{set(8, 5), done},
		{next(), fired(5, 8)},
		{next(), fired(5, 8)},
		{set(7, 5), done}, // the smaller ID at the same time
		{next(), fired(5, 7)},
		{set(6, 6), done}, // a smaller ID, but later
		{next(), fired(5, 7)},
		{set(9, 0), done},
		{next(), fired(0, 9)},
		{advance(5), fired(5, 9, 7, 8)},
		{set(2, 1), done},
		{next(), fired(1, 2)},
		{advance(6), fired(6, 2, 6)},
		{next(), failed(api.ErrUnknown)},
	})
}

// P2.1: ErrInvalid, which changes nothing, whatever the other fields are.
func TestKinds(t *testing.T) {
	steps := []step{{set(1, 5), done}}
	for _, kind := range []int{math.MinInt, -1, 0, 5, 6, math.MaxInt} {
		for _, id := range []int{-1, 1, 2} {
			op := api.TimerOp{Kind: kind, ID: id, At: 7}
			steps = append(steps, step{op, failed(api.ErrInvalid)}, step{next(), fired(5, 1)})
		}
	}
	play(t, append(steps, step{advance(4), fired(4)}, step{advance(5), fired(5, 1)}))
}

// The chapter's example 1.
func TestExample(t *testing.T) {
	play(t, []step{{set(2, 9), done}, {set(1, 9), done}, {set(3, 4), done}, {advance(9), fired(9, 3, 1, 2)}})
}

// P2.1: without operations there are no replies.
func TestNothing(t *testing.T) {
	for _, l := range [][]api.TimerOp{nil, {}} {
		if got := timerq.Play(l); len(got) != 0 {
			t.Errorf("Play(%v) = %v", l, got)
		}
	}
}

// model keeps the timers in a list in their order, as the chapter defines it.
type model struct {
	now    uint64
	timers []api.TimerOp
}

func (m *model) place(id int) int {
	return slices.IndexFunc(m.timers, func(o api.TimerOp) bool { return o.ID == id })
}

func (m *model) remove(id int) {
	m.timers = slices.DeleteFunc(m.timers, func(o api.TimerOp) bool { return o.ID == id })
}

func (m *model) set(op api.TimerOp) api.TimerReply {
	if op.ID < 0 {
		return failed(api.ErrRange)
	}
	if m.place(op.ID) < 0 && len(m.timers) >= api.MaxTimers {
		return failed(api.ErrLimit)
	}
	m.remove(op.ID)
	m.timers = append(m.timers, op)
	slices.SortFunc(m.timers, func(a, b api.TimerOp) int {
		return cmp.Or(cmp.Compare(a.At, b.At), cmp.Compare(a.ID, b.ID))
	})
	return done
}

func (m *model) advance(at uint64) api.TimerReply {
	if at > m.now {
		m.now = at
	}
	r := fired(m.now)
	for len(m.timers) > 0 && m.timers[0].At <= m.now {
		r.Fired = append(r.Fired, m.timers[0].ID)
		m.timers = m.timers[1:]
	}
	return r
}

func (m *model) carryOut(op api.TimerOp) api.TimerReply {
	switch op.Kind {
	case api.TimerSet:
		return m.set(op)
	case api.TimerCancel:
		if m.place(op.ID) < 0 {
			return failed(api.ErrUnknown)
		}
		m.remove(op.ID)
		return done
	case api.TimerAdvance:
		return m.advance(op.At)
	case api.TimerNext:
		if len(m.timers) == 0 {
			return failed(api.ErrUnknown)
		}
		return fired(m.timers[0].At, m.timers[0].ID)
	}
	return failed(api.ErrInvalid)
}

// script returns n operations, mostly sets, of IDs below the given bound and of times that grow slowly.
func script(r *rand.Rand, n, ids int) []api.TimerOp {
	l := make([]api.TimerOp, n)
	for i := range l {
		kind := []int{1, 1, 1, 1, 2, 2, 3, 4, 4, 0, 5}[r.IntN(11)]
		at := uint64(i/4 + r.IntN(ids))
		if kind == api.TimerAdvance {
			at = uint64(i/4 + r.IntN(9))
		}
		l[i] = api.TimerOp{Kind: kind, ID: r.IntN(ids) - ids/50, At: at}
	}
	return l
}

// scripts calls f with scripts of few timers and with ones of more timers than there may be.
func scripts(f func(l []api.TimerOp)) {
	r := rand.New(rand.NewPCG(2, 1))
	for range 60 {
		for _, ids := range []int{3, 12, 60, 1200} {
			f(script(r, 1500, ids))
		}
	}
}

// P2.1 for scripts of all operations, against the list of the definitions.
func TestModel(t *testing.T) {
	seen := map[api.Errno]int{}
	scripts(func(l []api.TimerOp) {
		var m model
		got := timerq.Play(l)
		for i, op := range l {
			want := m.carryOut(op)
			seen[want.Code]++
			if !same(got[i], want) {
				t.Fatalf("reply %d, to %+v: %+v, want %+v", i, op, got[i], want)
			}
		}
	})
	for _, code := range []api.Errno{api.OK, api.ErrLimit, api.ErrRange, api.ErrInvalid, api.ErrUnknown} {
		if seen[code] == 0 {
			t.Errorf("no operation has the error %d", code)
		}
	}
}

// P2: every timer that is set fires once, with the first advance that reaches its time, or is cancelled or set anew before.
func TestFiresOnce(t *testing.T) {
	scripts(func(l []api.TimerOp) {
		due := map[int]uint64{}
		for i, r := range timerq.Play(l) {
			switch {
			case r.Code != api.OK:
			case l[i].Kind == api.TimerSet:
				due[l[i].ID] = l[i].At
			case l[i].Kind == api.TimerCancel:
				delete(due, l[i].ID)
			case l[i].Kind == api.TimerAdvance:
				for _, id := range r.Fired {
					if at, ok := due[id]; !ok || at > r.At {
						t.Fatalf("reply %d: %d fires at %d, but is set: %t, for %d", i, id, r.At, ok, at)
					}
					delete(due, id)
				}
				for id, at := range due {
					if at <= r.At {
						t.Fatalf("reply %d: %d, which is set for %d, does not fire at %d", i, id, at, r.At)
					}
				}
			}
		}
	})
}

// P2: the IDs of Fired are in the order of their times, and those of several advances, too.
func TestFiresInOrder(t *testing.T) {
	r := rand.New(rand.NewPCG(2, 2))
	for range 50 {
		var ops []api.TimerOp
		times := map[int]uint64{}
		for range api.MaxTimers {
			id, at := r.IntN(1000), r.Uint64N(40)
			ops, times[id] = append(ops, set(id, at)), at
		}
		several := ops
		for at := uint64(0); at < 40; at += 1 + r.Uint64N(9) {
			several = append(slices.Clip(several), advance(at))
		}
		var parts []int
		for _, reply := range timerq.Play(append(several, advance(40))) {
			parts = append(parts, reply.Fired...)
		}
		whole := timerq.Play(append(slices.Clip(ops), advance(40)))[len(ops)].Fired
		if !slices.Equal(whole, parts) || len(whole) != len(times) {
			t.Fatalf("one advance fires %v, several fire %v", whole, parts)
		}
		if !slices.IsSortedFunc(whole, func(a, b int) int { return cmp.Or(cmp.Compare(times[a], times[b]), cmp.Compare(a, b)) }) {
			t.Fatalf("%v is not in the order of the times", whole)
		}
	}
}

// Rules: arguments stay as they are, results are new memory, and nothing is kept between calls.
func TestNoSharing(t *testing.T) {
	ops := []api.TimerOp{set(2, 9), set(1, 9), next(), advance(9), set(3, 1), advance(9), {}}
	before := slices.Clone(ops)
	first := timerq.Play(ops)
	second := timerq.Play(ops)
	if !slices.Equal(ops, before) {
		t.Errorf("the operations are now %v", ops)
	}
	if !reflect.DeepEqual(first, second) {
		t.Errorf("first %v, then %v", first, second)
	}
	for i := range first {
		first[i].Code = api.ErrChar
		for k := range first[i].Fired {
			first[i].Fired[k] = -7
		}
		if reflect.DeepEqual(first[i], second[i]) {
			t.Errorf("reply %d is shared", i)
		}
	}
	if third := timerq.Play(ops); !reflect.DeepEqual(second, third) {
		t.Errorf("after a change of a result %v, want %v", third, second)
	}
}
