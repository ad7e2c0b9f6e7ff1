package schedule_test

import (
	"math"
	"math/rand"
	"slices"
	"testing"

	"plexus/api"
	"plexus/sample"
	"plexus/schedule"
)

// simple are the events of the chapter's examples.
var simple = []api.Event{event(1, 1), event(2, 2), event(3, 1, 2)}

// odd are events with common names but different lists, with lists in different orders, with repetitions and without numbers, and with extreme numbers.
var odd = []api.Event{event(-1, 7, 7), event(-1), event(0, 7), event(5, math.MinInt), event(2, math.MinInt, 7), event(2, 7, math.MinInt), event(math.MaxInt, math.MaxInt, 0), event(math.MinInt)}

// P29.1 to P29.8: the examples.
func TestExamples(t *testing.T) {
	a, b, c := simple[0], simple[1], simple[2]
	bac, abc := []api.Event{b, a, c}, []api.Event{a, b, c}
	if got := schedule.Normal(bac); !equal(got, abc) {
		t.Errorf("Normal: %v", got)
	}
	if got := schedule.Layers(bac); !slices.EqualFunc(got, [][]int{{1, 2}, {3}}, slices.Equal) {
		t.Errorf("Layers: %v", got)
	}
	if got := schedule.Count(bac, 10); got != 2 {
		t.Errorf("Count: %d", got)
	}
	if got := schedule.All(bac, 10); !slices.EqualFunc(got, [][]api.Event{abc, bac}, equal) {
		t.Errorf("All: %v", got)
	}
	if got := schedule.Before(bac); !slices.Equal(got, [][2]int{{0, 2}, {1, 2}}) {
		t.Errorf("Before: %v", got)
	}
	if !schedule.Dependent(a, event(1, 5)) {
		t.Error("two events with the same name are not dependent")
	}
	if !schedule.Prefix([]api.Event{b}, abc) || schedule.Prefix([]api.Event{c}, abc) {
		t.Error("Prefix")
	}
	if got := schedule.Independent(bac); !slices.Equal(got, []int{0}) {
		t.Errorf("Independent: %v", got)
	}
}

// checkTrace compares the functions of one trace with the definitions.
func checkTrace(t *testing.T, trace []api.Event) {
	t.Helper()
	all := linearizations(trace)
	if got := schedule.Normal(trace); !equal(got, normal(trace)) || !equal(got, all[0]) {
		t.Fatalf("Normal(%v): %v", trace, got)
	}
	if got := schedule.Layers(trace); !slices.EqualFunc(got, layers(trace), slices.Equal) {
		t.Fatalf("Layers(%v): %v", trace, got)
	}
	if got := schedule.Before(trace); !slices.Equal(got, before(trace)) {
		t.Fatalf("Before(%v): %v", trace, got)
	}
	for _, limit := range []int{math.MinInt, -1, 0, 1, 2, len(all) - 1, len(all), len(all) + 1, math.MaxInt} {
		want := max(0, min(limit, len(all)))
		if got := schedule.Count(trace, limit); got != want {
			t.Fatalf("Count(%v, %d): %d", trace, limit, got)
		}
		if got := schedule.All(trace, limit); !slices.EqualFunc(got, all[:want], equal) {
			t.Fatalf("All(%v, %d): %v", trace, limit, got)
		}
	}
	var independent []int
	for i := 0; i+1 < len(trace); i++ {
		if !dependent(trace[i], trace[i+1]) {
			independent = append(independent, i)
		}
	}
	if got := schedule.Independent(trace); !slices.Equal(got, independent) {
		t.Fatalf("Independent(%v): %v", trace, got)
	}
}

// checkPair compares the functions of two traces with the definitions. all are the linearizations of b.
func checkPair(t *testing.T, a, b []api.Event, all [][]api.Event) {
	t.Helper()
	want := slices.ContainsFunc(all, func(s []api.Event) bool { return equal(a, s) })
	if schedule.Equivalent(a, b) != want || schedule.Equivalent(b, a) != want {
		t.Fatalf("Equivalent(%v, %v) is not %t", a, b, want)
	}
	if want := beginsWith(a, all); schedule.Prefix(a, b) != want {
		t.Fatalf("Prefix(%v, %v) is not %t", a, b, want)
	}
}

// P29.1: all pairs of events.
func TestDependent(t *testing.T) {
	for _, a := range append(odd, simple...) {
		for _, b := range append(odd, simple...) {
			if got := schedule.Dependent(a, b); got != dependent(a, b) {
				t.Errorf("Dependent(%v, %v): %t", a, b, got)
			}
		}
	}
	if schedule.Dependent(event(1), event(2)) || !schedule.Dependent(event(1), event(1)) || schedule.Dependent(event(1, 2), event(2, 1)) {
		t.Error("Dependent of events without common numbers")
	}
}

// P29.2, P29.4 to P29.6, P29.8: all short traces.
func TestAllTraces(t *testing.T) {
	for _, trace := range append(traces(simple, 5), traces(odd, 3)...) {
		checkTrace(t, trace)
	}
}

// P29.3 and P29.7: all pairs of short traces.
func TestAllPairs(t *testing.T) {
	for _, list := range [][][]api.Event{traces(simple, 4), traces(odd[:6], 3)} {
		for _, b := range list {
			all := linearizations(b)
			for _, a := range list {
				checkPair(t, a, b, all)
			}
		}
	}
}

// P29.1 to P29.8: random traces, and pairs of them of which one has some of the other one's events.
func TestRandomTraces(t *testing.T) {
	source := rand.New(rand.NewSource(29))
	for range 600 {
		b := randomTrace(source, 1+source.Intn(7))
		checkTrace(t, b)
		all := linearizations(b)
		for range 5 {
			a := slices.Clone(all[source.Intn(len(all))][:source.Intn(len(b)+1)])
			checkPair(t, a, b, all)
			if len(a) > 0 {
				i := source.Intn(len(a))
				checkPair(t, slices.Delete(slices.Clone(a), i, i+1), b, all)
				a[i] = b[source.Intn(len(b))]
				checkPair(t, a, b, all)
			}
		}
	}
}

// P29.1: the other functions use the same dependence also where the lists are long.
func TestLongLists(t *testing.T) {
	long := func(name, first int) api.Event {
		e := event(name)
		for i := range 50000 {
			e.Uses = append(e.Uses, first+2*i)
		}
		return e
	}
	even, uneven, last := long(3, 0), long(2, 1), long(1, 99999)
	if schedule.Dependent(even, uneven) || !schedule.Dependent(uneven, last) || !schedule.Dependent(last, uneven) {
		t.Error("Dependent")
	}
	trace := []api.Event{even, uneven, last}
	if got := names(schedule.Normal(trace)); !slices.Equal(got, []int{2, 1, 3}) {
		t.Errorf("Normal: %v", got)
	}
	if got := schedule.Before(trace); !slices.Equal(got, [][2]int{{1, 2}}) {
		t.Errorf("Before: %v", got)
	}
}

// No events: there is one linearization, which is empty.
func TestNoEvents(t *testing.T) {
	for _, none := range [][]api.Event{nil, {}} {
		checkTrace(t, none)
		checkPair(t, none, nil, [][]api.Event{{}})
		if all := schedule.All(none, 5); len(all) != 1 || len(all[0]) != 0 {
			t.Errorf("All: %v", all)
		}
		if !schedule.Prefix(none, simple) || schedule.Prefix(simple, none) || schedule.Equivalent(none, simple) {
			t.Error("Prefix or Equivalent")
		}
	}
}

// Nil and empty lists are the same.
func TestEmptyLists(t *testing.T) {
	a, b := []api.Event{{Name: 1, Uses: nil}}, []api.Event{{Name: 1, Uses: []int{}}}
	if !schedule.Equivalent(a, b) || !schedule.Equivalent(b, a) || !schedule.Prefix(a, b) || !schedule.Prefix(b, a) {
		t.Error("a nil list is not an empty list")
	}
}

// Arguments are not modified, and results share no memory with them, nor with each other.
func TestSharesNothing(t *testing.T) {
	fresh := func() []api.Event {
		return []api.Event{event(4, 1), event(3, 2, 2), event(2, 1), event(1, 3), event(1, 4)}
	}
	a, b := fresh(), fresh()
	var results []any
	for range 2 {
		results = append(results, schedule.Normal(a), schedule.All(a, 100), schedule.Layers(a), schedule.Before(a), schedule.Independent(a))
		schedule.Prefix(a, b)
		schedule.Equivalent(a, b)
		schedule.Dependent(a[0], b[0])
		schedule.Count(a, 100)
	}
	if !sample.Separate(append(results, a, b)...) {
		t.Error("memory is shared")
	}
	if !equal(a, fresh()) || !equal(b, fresh()) {
		t.Errorf("the arguments are %v and %v", a, b)
	}
}
