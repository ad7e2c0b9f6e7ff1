package schedule_test

import (
	"math"
	"math/rand"
	"slices"
	"testing"

	"plexus/api"
	"plexus/schedule"
)

// isIncreasing reports whether the sequences of names of traces increase.
func isIncreasing(all [][]api.Event) bool {
	for i := 1; i < len(all); i++ {
		if slices.Compare(names(all[i-1]), names(all[i])) >= 0 {
			return false
		}
	}
	return true
}

// P29.9: the consequences, with longer traces and exchanges of their events.
func TestConsequences(t *testing.T) {
	source := rand.New(rand.NewSource(299))
	for range 150 {
		a := randomTrace(source, 2+source.Intn(60))
		b := exchanged(source, a)
		if !schedule.Equivalent(a, b) || !equal(schedule.Normal(a), schedule.Normal(b)) {
			t.Fatalf("%v and %v are equivalent", a, b)
		}
		if !slices.EqualFunc(schedule.Layers(a), schedule.Layers(b), slices.Equal) || schedule.Count(a, 500) != schedule.Count(b, 500) {
			t.Fatalf("equivalent traces %v and %v have different layers or numbers of linearizations", a, b)
		}
		all := schedule.All(a, 50)
		if len(all) != schedule.Count(a, 50) || !equal(all[0], schedule.Normal(a)) || !isIncreasing(all) {
			t.Fatalf("the first linearizations of %v are %v", a, all)
		}
		for _, s := range all {
			if !equal(schedule.Normal(s), all[0]) || !schedule.Equivalent(s, b) || !schedule.Prefix(s[:source.Intn(len(s)+1)], b) {
				t.Fatalf("%v is a linearization of %v", s, b)
			}
		}
		// An exchange of dependent events, which differ, is not equivalent.
		i := 1 + source.Intn(len(b)-1)
		if dependent(b[i-1], b[i]) && !equal(b[i-1:i], b[i:i+1]) {
			c := slices.Clone(b)
			c[i-1], c[i] = c[i], c[i-1]
			if schedule.Equivalent(a, c) || equal(schedule.Normal(a), schedule.Normal(c)) || schedule.Prefix(c, a) {
				t.Fatalf("%v and %v are not equivalent", a, c)
			}
		}
	}
}

// P29.5: before is the transitive closure of dependence, also in longer traces.
func TestBeforeOfLongTraces(t *testing.T) {
	source := rand.New(rand.NewSource(295))
	for range 100 {
		trace := randomTrace(source, 40)
		reached := map[[2]int]bool{}
		var pairs [][2]int
		for i := range trace {
			for j := i + 1; j < len(trace); j++ {
				is := dependent(trace[i], trace[j])
				for k := i + 1; k < j; k++ {
					is = is || reached[[2]int{i, k}] && dependent(trace[k], trace[j])
				}
				if is {
					reached[[2]int{i, j}] = true
					pairs = append(pairs, [2]int{i, j})
				}
			}
		}
		if got := schedule.Before(trace); !slices.Equal(got, pairs) {
			t.Fatalf("Before(%v): %v", trace, got)
		}
	}
}

// P29.2, P29.4 and P29.7 compared with the definitions on longer traces.
func TestLongerTraces(t *testing.T) {
	source := rand.New(rand.NewSource(294))
	for range 200 {
		trace := randomTrace(source, 2+source.Intn(60))
		if got := schedule.Normal(trace); !equal(got, normal(trace)) {
			t.Fatalf("Normal(%v): %v", trace, got)
		}
		if got := schedule.Layers(trace); !slices.EqualFunc(got, layers(trace), slices.Equal) {
			t.Fatalf("Layers(%v): %v", trace, got)
		}
		other := exchanged(source, trace)
		rest := schedule.Normal(trace)[source.Intn(len(trace)):]
		if !schedule.Prefix(other, append(slices.Clone(trace), rest...)) || schedule.Prefix(append(slices.Clone(other), rest...), trace) {
			t.Fatalf("Prefix of %v", trace)
		}
	}
}

// free returns n independent events with descending names.
func free(n int) []api.Event {
	t := make([]api.Event, n)
	for i := range t {
		t[i] = event(n-i, n-i)
	}
	return t
}

// P29.6: the numbers of linearizations of independent events, and of chains that are independent of each other.
func TestCount(t *testing.T) {
	factorial := 1
	for n := 1; n <= 8; n++ {
		factorial *= n
		if got := schedule.Count(free(n), math.MaxInt); got != factorial {
			t.Errorf("%d independent events: %d", n, got)
		}
	}
	for _, c := range []struct {
		lengths []int
		want    int
	}{{[]int{10, 5}, 3003}, {[]int{4, 4, 4}, 34650}, {[]int{30, 2}, 496}, {[]int{200}, 1}} {
		var chains []api.Event
		for chain, length := range c.lengths {
			for i := range length {
				chains = append(chains, event(1000*chain+i, chain))
			}
		}
		if got := schedule.Count(chains, 1000000); got != c.want {
			t.Errorf("chains of %v: %d", c.lengths, got)
		}
		if got := schedule.All(chains, 1000000); len(got) != c.want || !isIncreasing(got) {
			t.Errorf("chains of %v: %d", c.lengths, len(got))
		}
	}
}

// The time of Count and All grows with the limit, not with the number of linearizations: these traces have more than could ever be counted.
func TestManyLinearizations(t *testing.T) {
	const n = 300
	begin := free(n)
	all := append(free(n), event(n+1))
	for i := range n {
		all[n].Uses = append(all[n].Uses, i+1)
	}
	for i := range n {
		all = append(all, event(n+2+i, i+1))
	}
	for _, trace := range [][]api.Event{begin, all} {
		for _, limit := range []int{1, 2, 1000} {
			got := schedule.All(trace, limit)
			if len(got) != limit || schedule.Count(trace, limit) != limit || !isIncreasing(got) || !equal(got[0], schedule.Normal(trace)) {
				t.Errorf("%d of the linearizations of %d events", limit, len(trace))
			}
		}
	}
}

// All functions with some thousand events.
func TestManyEvents(t *testing.T) {
	const n = 20000
	source := rand.New(rand.NewSource(20000))
	trace := make([]api.Event, n)
	for i := range trace {
		trace[i] = event(source.Intn(n), source.Intn(n), source.Intn(n))
	}
	sorted := schedule.Normal(trace)
	if !schedule.Equivalent(trace, sorted) || !schedule.Prefix(sorted[:n/2], trace) || schedule.Count(trace, 3) != 3 || len(schedule.All(trace, 3)) != 3 {
		t.Error("a trace of many events")
	}
	count := 0
	for _, names := range schedule.Layers(trace) {
		count += len(names)
	}
	if count != n || len(schedule.Independent(trace)) < n/2 || len(schedule.Before(free(3000))) != 0 {
		t.Error("the layers of many events")
	}
}
