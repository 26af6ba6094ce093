package graph_test

import (
	"math"
	"math/rand/v2"
	"reflect"
	"slices"
	"strconv"
	"strings"
	"testing"

	"jobmux/api"
	"jobmux/graph"
)

// places is a list of places, so that the tables below are short.
type places = []int

// jobs returns a list of jobs. Each text is a name and the names of what the job needs, with blanks between them.
func jobs(texts ...string) []api.Job {
	var l []api.Job
	for _, s := range texts {
		names := strings.Fields(s)
		l = append(l, api.Job{Name: names[0], Needs: names[1:]})
	}
	return l
}

// noPlaces are numbers that are no places in a list.
func noPlaces(l []api.Job) places {
	return places{-1, -2, math.MinInt, len(l), len(l) + 1, math.MaxInt}
}

// same ends the test if two lists of places differ.
func same(t *testing.T, what string, l []api.Job, got, want places) {
	t.Helper()
	if !slices.Equal(got, want) {
		t.Fatalf("%s of %s\n got %v\nwant %v", what, describe(l), got, want)
	}
}

// describe writes the names and needs of jobs.
func describe(l []api.Job) string {
	var s strings.Builder
	for i, j := range l[:min(len(l), 40)] {
		s.WriteString("\n\t" + strconv.Itoa(i) + ": " + strconv.Quote(j.Name) + " needs")
		for _, n := range j.Needs[:min(len(j.Needs), 40)] {
			s.WriteString(" " + strconv.Quote(n))
		}
	}
	return s.String()
}

// sameAsModel ends the test if a function and the model differ, or if the functions do not fit one another.
func sameAsModel(t *testing.T, l []api.Job) {
	t.Helper()
	m := newModel(l)
	for i := range l {
		what := " " + strconv.Itoa(i)
		same(t, "Needs"+what, l, graph.Needs(l, i), m.needed(i))
		same(t, "Dependents"+what, l, graph.Dependents(l, i), m.dependents(i))
	}
	order, cycle := graph.Order(l), graph.Cycle(l)
	same(t, "Order", l, order, m.order())
	same(t, "Cycle", l, cycle, m.cycle())
	consequences(t, l, m, order, cycle)
}

// consequences ends the test if a consequence of the promises does not hold.
func consequences(t *testing.T, l []api.Job, m model, order, cycle places) {
	t.Helper()
	for n, i := range cycle {
		if next := cycle[(n+1)%len(cycle)]; !slices.Contains(graph.Needs(l, i), next) {
			t.Fatalf("job %d does not need job %d, the next one of the cycle %v of %s", i, next, cycle, describe(l))
		}
	}
	itself, dependents := false, make([]places, len(l))
	for i := range l {
		dependents[i] = graph.Dependents(l, i)
		itself = itself || slices.Contains(dependents[i], i)
	}
	if all := len(order) == len(l); all == itself || all != (len(cycle) == 0) {
		t.Fatalf("a job needs itself: %v, but the order is %v and the cycle %v of %s", itself, order, cycle, describe(l))
	}
	for i := range l {
		for k := range l {
			both := slices.Contains(dependents[i], k) && slices.Contains(dependents[k], i)
			if round := m.reach[i][k] && m.reach[k][i]; both != round {
				t.Fatalf("jobs %d and %d lie on a cycle: %v, but are dependents of one another: %v in %s", i, k, round, both, describe(l))
			}
		}
	}
}

// P7.1: Index.
func TestIndex(t *testing.T) {
	l := []api.Job{
		{Name: "b", Run: "r", Needs: []string{"n"}, Ready: "p"}, {Name: "a"}, {Name: "b"}, {Name: ""}, {Name: "A"},
		{Name: "a"}, {Name: "ab"}, {Name: "\xff"}, {Name: "\ufffd"}, {Name: ""}, {Name: strings.Repeat("x", 1<<20)}, {Name: "last"},
	}
	for name, want := range map[string]int{
		"b": 0, "a": 1, "": 3, "A": 4, "ab": 6, "\xff": 7, "\ufffd": 8, strings.Repeat("x", 1<<20): 10, "last": 11,
		"B": -1, "aa": -1, "abc": -1, "a ": -1, "a\x00": -1, "\xfe": -1, "r": -1, "n": -1, "p": -1, strings.Repeat("x", 1<<20-1): -1,
	} {
		if got := graph.Index(l, name); got != want {
			t.Errorf("Index of %.20q = %d, want %d", name, got, want)
		}
	}
	for _, name := range []string{"", "a"} {
		if got := graph.Index(nil, name); got != -1 {
			t.Errorf("Index(nil, %q) = %d", name, got)
		}
	}
	if got := graph.Index(jobs("a"), ""); got != -1 {
		t.Errorf("Index of no name = %d", got)
	}
}

// P7.1: Needs.
func TestNeeds(t *testing.T) {
	l := jobs("a", "b c a", "c", "d z y", "e e", "a b", "f a", "g c c b c b", "h g f e d c b a", "i Z c z", "z")
	for i, want := range []places{
		{}, {0, 2}, {}, {10}, {4}, {1}, {0}, {1, 2}, {0, 1, 2, 3, 4, 6, 7}, {2, 10}, {},
	} {
		same(t, "Needs "+strconv.Itoa(i), l, graph.Needs(l, i), want)
	}
	for _, i := range noPlaces(l) {
		same(t, "Needs "+strconv.Itoa(i), l, graph.Needs(l, i), nil)
	}
	for _, i := range []int{-1, 0, 1} {
		same(t, "Needs "+strconv.Itoa(i), nil, graph.Needs(nil, i), nil)
	}
	// A name can be empty, like any other one; what does not have it does not count.
	l = []api.Job{{Name: "a", Needs: []string{""}}, {Name: "b"}}
	same(t, "Needs 0", l, graph.Needs(l, 0), nil)
	l = append(l, api.Job{Name: ""}, api.Job{Name: ""})
	same(t, "Needs 0", l, graph.Needs(l, 0), places{2})
}

// P7.2: Order.
func TestOrder(t *testing.T) {
	for _, c := range []struct {
		l    []api.Job
		want places
	}{
		{nil, nil},
		{jobs("a"), places{0}},
		{jobs("a a"), nil},
		{jobs("a z"), places{0}}, // names that no job has count for nothing
		{jobs("a", "b", "c"), places{0, 1, 2}},
		{jobs("a b", "b", "c"), places{1, 0, 2}}, // the search begins anew after b
		{jobs("a c", "b", "c", "d"), places{1, 2, 0, 3}},
		{jobs("a b", "b c", "c d", "d", "e"), places{3, 2, 1, 0, 4}},
		{jobs("a d", "b d", "c", "d", "e"), places{2, 3, 0, 1, 4}},
		{jobs("a b d", "b", "c", "d"), places{1, 2, 3, 0}}, // all needs, not one of them
		{jobs("a", "b a a", "c b a b"), places{0, 1, 2}},
		{jobs("a b", "b a", "c"), places{2}},
		{jobs("a b", "b a", "c a", "d", "e d c"), places{3}}, // what needs a cycle is not taken
		{jobs("a d", "b b", "c d", "d"), places{3, 0, 2}},
		{jobs("a b", "b", "a"), places{1, 0, 2}},
		{jobs("b", "a b", "b a"), places{0, 1, 2}}, // the second b is needed by nobody
		{jobs("b a", "a b", "b"), places{2}},       // and is no help for a
	} {
		same(t, "Order", c.l, graph.Order(c.l), c.want)
	}
}

// P7.3: Cycle.
func TestCycle(t *testing.T) {
	for _, c := range []struct {
		l    []api.Job
		want places
	}{
		{nil, nil},
		{jobs("a"), nil},
		{jobs("a b", "b", "c a b"), nil},
		{jobs("a z"), nil},
		{jobs("a a"), places{0}},
		{jobs("a b", "b a"), places{0, 1}},
		{jobs("a c", "b a", "c b"), places{0, 2, 1}},
		{jobs("a", "b c", "c b"), places{1, 2}},
		{jobs("a", "b c", "c a b"), places{1, 2}}, // needs that Order has are passed over
		{jobs("a b", "b c", "c b"), places{1, 2}}, // a is before the cycle, but not on it
		{jobs("a c", "b c", "c b"), places{2, 1}}, // so the cycle begins where a comes to it
		{jobs("a d", "b a", "c b", "d c"), places{0, 3, 2, 1}},
		{jobs("a d", "b a", "c b", "d c b"), places{0, 3, 1}}, // the first need by place, not as they are written
		{jobs("a c b", "b a", "c a"), places{0, 1}},
		{jobs("a b a", "b a"), places{0}},
		{jobs("a b", "b b a"), places{0, 1}},
		{jobs("a b", "b c b"), places{1}}, // c is no job
		{jobs("a d", "b c", "c b", "d d"), places{3}},
		{jobs("a c", "b b", "c c"), places{2}}, // from the first job that is left, not the first cycle by place
		{jobs("a b", "b c", "c d", "d e", "e c"), places{2, 3, 4}},
		{jobs("b a", "a b", "b"), places{0, 1}},
		{jobs("b", "a b", "b a"), nil},
		{jobs("b a", "b c", "c b", "a a"), places{3}},
	} {
		same(t, "Cycle", c.l, graph.Cycle(c.l), c.want)
	}
}

// P7.4: Dependents.
func TestDependents(t *testing.T) {
	for _, c := range []struct {
		l    []api.Job
		want []places
	}{
		{jobs("a"), []places{{}}},
		{jobs("a z"), []places{{}}},
		{jobs("a a"), []places{{0}}},
		{jobs("a b", "b c", "c"), []places{{}, {0}, {0, 1}}},
		{jobs("a", "b a", "c b", "d c"), []places{{1, 2, 3}, {2, 3}, {3}, {}}},
		{jobs("a d", "b", "c a", "d"), []places{{2}, {}, {}, {0, 2}}},
		{jobs("a b", "b a", "c a"), []places{{0, 1, 2}, {0, 1, 2}, {}}},
		{jobs("a c", "b b a", "c"), []places{{1}, {1}, {0, 1}}},
		{jobs("a", "b a", "a b", "c a"), []places{{1, 2, 3}, {2}, {}, {}}}, // nobody needs the second a
		{jobs("a d", "b d", "c a b", "d"), []places{{2}, {2}, {}, {0, 1, 2}}},
	} {
		for i, want := range c.want {
			same(t, "Dependents "+strconv.Itoa(i), c.l, graph.Dependents(c.l, i), want)
		}
		for _, i := range noPlaces(c.l) {
			same(t, "Dependents "+strconv.Itoa(i), c.l, graph.Dependents(c.l, i), nil)
		}
	}
	for _, i := range []int{-1, 0, 1} {
		same(t, "Dependents "+strconv.Itoa(i), nil, graph.Dependents(nil, i), nil)
	}
}

// The chapter's example, and the document's.
func TestExamples(t *testing.T) {
	l := jobs("a b", "b")
	same(t, "Order", l, graph.Order(l), places{1, 0})
	l = jobs("a b", "b a")
	same(t, "Order", l, graph.Order(l), nil)
	same(t, "Cycle", l, graph.Cycle(l), places{0, 1})
}

// All promises: every list of up to four jobs with different names, the needs of each in this order or the other one.
func TestEveryGraph(t *testing.T) {
	for n := range 5 {
		for bits := range 1 << (n * n) {
			l := make([]api.Job, n)
			for i := range n * n {
				if bits>>i&1 == 1 {
					l[i/n].Needs = append(l[i/n].Needs, string(rune('a'+i%n)))
				}
			}
			for i := range l {
				l[i].Name = string(rune('a' + i))
				if bits%3 == 0 {
					slices.Reverse(l[i].Needs)
				}
			}
			sameAsModel(t, l)
		}
	}
}

// randomJobs makes jobs whose names and needs are at random, and what else they have, too.
func randomJobs(r *rand.Rand, most, names, needs int) []api.Job {
	l := make([]api.Job, r.IntN(most+1))
	// The name of a job is "" now and then; other jobs may have the same one.
	name := func(n int) string { return strings.TrimPrefix(strconv.Itoa(r.IntN(n)), "0") }
	different := r.IntN(2) == 0
	for i := range l {
		l[i] = api.Job{Name: name(names), Run: name(names), HasReady: r.IntN(2) == 0, Ready: name(names), Restart: r.IntN(4), Line: r.IntN(9), Column: r.IntN(9)}
		if different {
			l[i].Name = strconv.Itoa(i)
		}
		for range r.IntN(needs + 1) {
			l[i].Needs = append(l[i].Needs, name(names+2))
		}
	}
	r.Shuffle(len(l), func(i, k int) { l[i], l[k] = l[k], l[i] })
	return l
}

// ring makes jobs each of which needs the one that is some places further, in a ring.
func ring(n, step int) []api.Job {
	l := make([]api.Job, n)
	for i := range l {
		l[i] = api.Job{Name: strconv.Itoa(i), Needs: []string{strconv.Itoa((i + step) % n)}}
	}
	return l
}

// randomRing makes a ring whose jobs are in any order, with a few needs more.
func randomRing(r *rand.Rand, most int) []api.Job {
	l := ring(1+r.IntN(most), 1)
	for range r.IntN(4) {
		i := r.IntN(len(l))
		l[i].Needs = append(l[i].Needs, strconv.Itoa(r.IntN(2*len(l))))
	}
	r.Shuffle(len(l), func(i, k int) { l[i], l[k] = l[k], l[i] })
	return l
}

// All promises: lists at random, with names that several jobs have or none.
func TestModel(t *testing.T) {
	r := rand.New(rand.NewPCG(7, 1))
	cycles, orders := map[int]int{}, map[int]int{}
	for range 10000 {
		for _, l := range [][]api.Job{randomJobs(r, 1+r.IntN(14), 1+r.IntN(12), 1+r.IntN(4)), randomRing(r, 10)} {
			sameAsModel(t, l)
			cycles[len(graph.Cycle(l))]++
			orders[len(graph.Order(l))]++
		}
	}
	for range 200 {
		sameAsModel(t, randomJobs(r, api.MaxJobs, api.MaxJobs, 1+r.IntN(4)))
		sameAsModel(t, randomRing(r, api.MaxJobs))
	}
	for n := range 8 {
		if cycles[n] < 100 || orders[n] < 100 {
			t.Errorf("only %d lists with a cycle and %d with an order of %d", cycles[n], orders[n], n)
		}
	}
}

// P1: lists of any length, whose jobs need as many others as they like.
func TestLongLists(t *testing.T) {
	const n = 2000
	l := ring(n, 1)
	if cycle := graph.Cycle(l); len(graph.Order(l)) != 0 || len(cycle) != n || cycle[0] != 0 || cycle[n-1] != n-1 || len(graph.Dependents(l, 9)) != n {
		t.Errorf("a ring of %d jobs: the cycle has %d", n, len(cycle))
	}
	l[n-1].Needs = nil
	if order := graph.Order(l); len(order) != n || order[0] != n-1 || order[n-1] != 0 || graph.Cycle(l) != nil || len(graph.Dependents(l, n-1)) != n-1 {
		t.Errorf("a chain of %d jobs: the order has %d", n, len(order))
	}
	l = ring(n, n-1)
	l[0].Needs = nil
	if order := graph.Order(l); len(order) != n || !slices.IsSorted(order) || len(graph.Dependents(l, 0)) != n-1 || len(graph.Dependents(l, n-1)) != 0 {
		t.Errorf("a chain of %d jobs the other way: the order has %d", n, len(order))
	}
	l = make([]api.Job, n)
	l[0].Needs = slices.Repeat([]string{"", "a"}, 1<<12)
	if order := graph.Order(l); len(order) != n-1 || order[0] != 1 || !slices.Equal(graph.Cycle(l), places{0}) || !slices.Equal(graph.Needs(l, 0), places{0}) {
		t.Errorf("%d jobs without names: the order has %d", n, len(order))
	}
	for i := range l {
		l[i] = api.Job{Name: strconv.Itoa(i)}
		for k := range 300 {
			l[i].Needs = append(l[i].Needs, strconv.Itoa(299-k))
		}
	}
	if needs := graph.Needs(l, n-1); len(needs) != 300 || needs[0] != 0 || len(graph.Order(l)) != 0 || !slices.Equal(graph.Cycle(l), places{0}) || len(graph.Dependents(l, 0)) != n {
		t.Errorf("%d jobs that need the first 300: one needs %d", n, len(needs))
	}
}

// copyJobs copies jobs and their lists.
func copyJobs(l []api.Job) []api.Job {
	l = slices.Clone(l)
	for i := range l {
		l[i].Needs = slices.Clone(l[i].Needs)
	}
	return l
}

// Rules: nothing is kept between calls, arguments are not changed, and results are new memory.
func TestNoSharing(t *testing.T) {
	r := rand.New(rand.NewPCG(7, 2))
	for range 300 {
		l := randomJobs(r, 10, 8, 3)
		before := copyJobs(l)
		for range 2 {
			results := []places{graph.Order(l), graph.Cycle(l)}
			for i := range l {
				results = append(results, graph.Needs(l, i), graph.Dependents(l, i))
				graph.Index(l, l[i].Name)
			}
			sameAsModel(t, l)
			for _, p := range results {
				p = p[:cap(p)]
				for i := range p {
					p[i] = -7
				}
			}
			sameAsModel(t, l)
			if !reflect.DeepEqual(l, before) {
				t.Fatalf("the jobs were changed\n from %s\n to %s", describe(before), describe(l))
			}
		}
	}
}
