package broadcast_test

import (
	"fmt"
	"math/rand"
	"slices"
	"testing"

	"plexus/api"
	"plexus/broadcast"
)

// cluster is a run of a group: its processes, which of them have crashed, what they have broadcast, and the packets under way.
type cluster struct {
	processes []*broadcast.Process
	crashed   []bool
	made      [][]string // for each process the payloads that were passed to Broadcast
	underWay  []api.Packet
}

// newCluster returns the beginning of a run.
func newCluster(t *testing.T, n int) *cluster {
	return &cluster{processes: group(t, n), crashed: make([]bool, n), made: make([][]string, n)}
}

// broadcast lets a process that has not crashed make a broadcast.
func (c *cluster) broadcast(process int, payload string) {
	c.made[process] = append(c.made[process], payload)
	c.underWay = append(c.underWay, c.processes[process].Broadcast([]byte(payload))...)
}

// deliver hands the packet with an index to its receiver, unless that has crashed.
func (c *cluster) deliver(t *testing.T, index int) {
	t.Helper()
	m := c.underWay[index]
	c.underWay = slices.Delete(c.underWay, index, index+1)
	if !c.crashed[m.To] {
		c.underWay = append(c.underWay, c.processes[m.To].Receive(m)...)
		c.checkOrder(t, m.To)
	}
}

// calm is a calm round; pick chooses the index of the next packet that is received.
func (c *cluster) calm(t *testing.T, pick func(n int) int) {
	t.Helper()
	for i, p := range c.processes {
		if !c.crashed[i] {
			c.underWay = append(c.underWay, p.Resend()...)
		}
	}
	for len(c.underWay) > 0 {
		c.deliver(t, pick(len(c.underWay)))
	}
}

// counts returns how many broadcasts of each origin a process has delivered.
func (c *cluster) counts(process int) []int {
	counts := make([]int, len(c.processes))
	for _, d := range c.processes[process].Delivered() {
		counts[d.Origin]++
	}
	return counts
}

// checkOrder checks P32.2 for one process: of each origin it has delivered the first broadcasts, in order, each once.
func (c *cluster) checkOrder(t *testing.T, process int) {
	t.Helper()
	counts := make([]int, len(c.processes))
	for _, d := range c.processes[process].Delivered() {
		k := counts[d.Origin]
		if d.Number != k+1 || k >= len(c.made[d.Origin]) || string(d.Payload) != c.made[d.Origin][k] {
			t.Fatalf("process %d delivers %+v behind %d broadcasts of its origin", process, d, k)
		}
		counts[d.Origin]++
	}
}

// checkCalm checks P32.3 and P32.4 behind a calm round.
func (c *cluster) checkCalm(t *testing.T) {
	t.Helper()
	running, most := 0, make([]int, len(c.processes))
	for i := range c.processes {
		if !c.crashed[i] {
			running++
		}
		for origin, count := range c.counts(i) {
			most[origin] = max(most[origin], count)
		}
	}
	for i, p := range c.processes {
		if c.crashed[i] {
			continue
		}
		for _, m := range p.Resend() {
			if !c.crashed[m.To] {
				t.Fatalf("process %d still sends %+v", i, m)
			}
		}
		if 2*running <= len(c.processes) {
			continue
		}
		if got := c.counts(i); !slices.Equal(got, most) || got[i] != len(c.made[i]) {
			t.Fatalf("process %d has delivered %v of %v, and made %d", i, got, most, len(c.made[i]))
		}
	}
}

// randomStep does anything that can happen in a run.
func (c *cluster) randomStep(t *testing.T, source *rand.Rand, number int) {
	t.Helper()
	process := source.Intn(len(c.processes))
	if len(c.underWay) > 0 && source.Intn(5) > 0 {
		index := source.Intn(len(c.underWay))
		switch source.Intn(8) {
		case 0:
			c.underWay = slices.Delete(c.underWay, index, index+1)
		case 1:
			c.underWay = append(c.underWay, c.underWay[index])
		default:
			c.deliver(t, index)
		}
		return
	}
	if c.crashed[process] {
		return
	}
	switch source.Intn(12) {
	case 0:
		c.crashed[process] = true
	case 1, 2:
		c.underWay = append(c.underWay, c.processes[process].Resend()...)
	default:
		c.broadcast(process, fmt.Sprint(number % 7)[:number%2])
	}
	c.checkOrder(t, process)
}

// P32.2 to P32.4: random runs with crashes, in which packets are lost, duplicated and reordered, with calm rounds in between.
func TestRuns(t *testing.T) {
	source := rand.New(rand.NewSource(322))
	for range 600 {
		n := 1 + source.Intn(6)
		if source.Intn(15) == 0 {
			n = api.MaxReplicas
		}
		c := newCluster(t, n)
		for range 3 {
			for number := range source.Intn(80) {
				c.randomStep(t, source, number)
			}
			c.calm(t, source.Intn)
			c.checkCalm(t)
			for i := range c.processes {
				c.checkOrder(t, i)
			}
		}
	}
}

// replay returns the run of a group in which the origins make their broadcasts, and then the packets with these indices among those under way are received.
func replay(t *testing.T, n int, origins, indices []int) *cluster {
	t.Helper()
	c := newCluster(t, n)
	for i, origin := range origins {
		c.broadcast(origin, fmt.Sprint("payload ", i))
	}
	for _, index := range indices {
		c.deliver(t, index)
	}
	return c
}

// checkEnds checks all ends of a run in which then some processes crash, and all packets under way are lost.
func checkEnds(t *testing.T, n int, origins, indices []int) {
	t.Helper()
	for crashed := range 1 << n {
		c := replay(t, n, origins, indices)
		c.underWay = nil
		for i := range n {
			c.crashed[i] = crashed>>i&1 == 1
		}
		c.calm(t, func(int) int { return 0 })
		c.checkCalm(t)
	}
}

// P32.2 to P32.4: all orders in which the first packets of a few broadcasts can be received, and all crashes behind any of them.
func TestAllOrders(t *testing.T) {
	for _, c := range []struct {
		n       int
		origins []int
		most    int // so many packets are received at most
	}{{2, []int{0, 0}, 4}, {2, []int{0, 1, 0}, 6}, {3, []int{0}, 8}, {3, []int{1, 1}, 5}, {4, []int{2}, 5}} {
		var explore func(indices []int)
		explore = func(indices []int) {
			checkEnds(t, c.n, c.origins, indices)
			if len(indices) == c.most {
				return
			}
			for i := range replay(t, c.n, c.origins, indices).underWay {
				explore(append(slices.Clone(indices), i))
			}
		}
		explore(nil)
	}
}
