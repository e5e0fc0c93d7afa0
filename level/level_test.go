package level

import (
	"math"
	"slices"
	"testing"

	"raceway/api"
	"raceway/flow"
	"raceway/residual"
)

const (
	most   = math.MaxInt64
	lowest = math.MinInt64
)

// network has its source at 1 and its sink at its last node.
func network(nodes int, arcs ...api.Arc) api.Net {
	return api.Net{Nodes: nodes, Source: 1, Sink: nodes, Arcs: arcs}
}

// sample has a loop, arcs beside one another, a short cut that is narrow, an arc to the source from a node that is not come to, one behind the sink, one without a capacity, and a node without arcs. Its source is 2, its sink 5.
func sample() api.Net {
	return api.Net{Nodes: 8, Source: 2, Sink: 5, Arcs: []api.Arc{
		{From: 3, To: 4, Cap: 3},
		{From: 2, To: 3, Cap: 4},
		{From: 2, To: 4, Cap: 1},
		{From: 4, To: 5, Cap: 2},
		{From: 4, To: 5, Cap: 3},
		{From: 4, To: 4, Cap: 9},
		{From: 6, To: 2, Cap: 9},
		{From: 5, To: 7, Cap: 2},
		{From: 2, To: 8, Cap: 0},
		{From: 3, To: 2, Cap: 9},
	}}
}

// sampleFlow is worth 3, and fills the short cut; what flows on the loop flows on nothing else.
func sampleFlow() []int64 { return []int64{2, 2, 1, 2, 1, 3, 0, 0, 0, 0} }

func tryLevel(t *testing.T, n api.Net, f []int64, least int64, levels, leads []int) {
	t.Helper()
	if l, e := Levels(n, f, least); !slices.Equal(l, levels) || e != api.OK {
		t.Errorf("Levels(%v, %d, %d): %d, %d; want %d", n, f, least, l, e, levels)
	}
	if l, e := Leads(n, f, least); !slices.Equal(l, leads) || e != api.OK {
		t.Errorf("Leads(%v, %d, %d): %d, %d; want %d", n, f, least, l, e, leads)
	}
	if deep, e := Deep(n, f, least); deep != levels[n.Sink] || e != api.OK {
		t.Errorf("Deep(%v, %d, %d): %d, %d; want %d", n, f, least, deep, e, levels[n.Sink])
	}
}

func tryFault(t *testing.T, n api.Net, f []int64, least int64, want api.Errno) {
	t.Helper()
	if l, e := Levels(n, f, least); len(l) != 0 || e != want {
		t.Errorf("Levels(%v, %d, %d): %d, %d; want %d", n, f, least, l, e, want)
	}
	if l, e := Leads(n, f, least); len(l) != 0 || e != want {
		t.Errorf("Leads(%v, %d, %d): %d, %d; want %d", n, f, least, l, e, want)
	}
	if deep, e := Deep(n, f, least); deep != 0 || e != want {
		t.Errorf("Deep(%v, %d, %d): %d, %d; want %d", n, f, least, deep, e, want)
	}
}

func TestL1Example(t *testing.T) {
	n := network(2, api.Arc{From: 1, To: 2, Cap: 5})
	tryLevel(t, n, []int64{5}, 1, []int{-1, 0, -1}, nil)
	tryLevel(t, n, []int64{4}, 1, []int{-1, 0, 1}, []int{0})
	tryLevel(t, n, []int64{0}, 5, []int{-1, 0, 1}, []int{0})
	tryLevel(t, n, []int64{0}, 6, []int{-1, 0, -1}, nil)
}

func TestL1LevelsHangOnLeast(t *testing.T) {
	n, f := sample(), make([]int64, 10)
	tryLevel(t, n, f, 1, []int{-1, -1, 0, 1, 1, 2, -1, 3, -1}, []int{2, 4, 6, 8, 14})
	tryLevel(t, n, f, 2, []int{-1, -1, 0, 1, 2, 3, -1, 4, -1}, []int{0, 2, 6, 8, 14})
	tryLevel(t, n, f, 3, []int{-1, -1, 0, 1, 2, 3, -1, -1, -1}, []int{0, 2, 8})
	tryLevel(t, n, f, 4, []int{-1, -1, 0, 1, -1, -1, -1, -1, -1}, []int{2})
	for _, least := range []int64{5, 9, 10, 1 << 32, 1<<32 + 1, api.MaxSum, most} {
		tryLevel(t, n, f, least, []int{-1, -1, 0, -1, -1, -1, -1, -1, -1}, nil)
	}
}

func TestL1LevelsHangOnTheFlow(t *testing.T) {
	n, f := sample(), sampleFlow()
	tryLevel(t, n, f, 1, []int{-1, -1, 0, 1, 2, 3, -1, 4, -1}, []int{0, 2, 8, 14})
	tryLevel(t, n, f, 2, []int{-1, -1, 0, 1, -1, -1, -1, -1, -1}, []int{2})
	tryLevel(t, n, f, 3, []int{-1, -1, 0, -1, -1, -1, -1, -1, -1}, nil)
	tryLevel(t, n, []int64{3, 3, 1, 2, 2, 0, 0, 0, 0, 0}, 1, []int{-1, -1, 0, 1, -1, -1, -1, -1, -1}, []int{2})
}

// The sink is come to only over 3 and back to 2, which is nearer to the source by an arc that is full.
func TestL1TracksBackLeadOn(t *testing.T) {
	n, f := network(4,
		api.Arc{From: 1, To: 2, Cap: 5},
		api.Arc{From: 2, To: 3, Cap: 5},
		api.Arc{From: 3, To: 4, Cap: 5},
		api.Arc{From: 1, To: 3, Cap: 7},
		api.Arc{From: 2, To: 4, Cap: 3},
	), []int64{5, 5, 5, 0, 0}
	tryLevel(t, n, f, 3, []int{-1, 0, 2, 1, 3}, []int{3, 6, 8})
	tryLevel(t, n, f, 4, []int{-1, 0, 2, 1, -1}, []int{3, 6})
	tryLevel(t, n, f, 6, []int{-1, 0, -1, 1, -1}, []int{6})
	tryLevel(t, n, f, 8, []int{-1, 0, -1, -1, -1}, nil)
}

func TestL1FewestAndGreatest(t *testing.T) {
	tryLevel(t, network(2), nil, 1, []int{-1, 0, -1}, nil)
	tryLevel(t, network(2), []int64{}, most, []int{-1, 0, -1}, nil)
	alone := slices.Repeat([]int{-1}, 501)
	alone[1] = 0
	tryLevel(t, network(500), nil, 1, alone, nil)
	great := network(2, api.Arc{From: 1, To: 2, Cap: api.MaxSum})
	tryLevel(t, great, []int64{0}, api.MaxSum, []int{-1, 0, 1}, []int{0})
	tryLevel(t, great, []int64{0}, api.MaxSum+1, []int{-1, 0, -1}, nil)
	tryLevel(t, great, []int64{1}, api.MaxSum, []int{-1, 0, -1}, nil)
	back := network(2, api.Arc{From: 2, To: 1, Cap: api.MaxSum})
	tryLevel(t, back, []int64{api.MaxSum}, api.MaxSum, []int{-1, 0, 1}, []int{1})
	tryLevel(t, back, []int64{api.MaxSum - 1}, api.MaxSum, []int{-1, 0, -1}, nil)
	tryLevel(t, back, []int64{api.MaxSum}, most, []int{-1, 0, -1}, nil)
}

func TestL1AsManyArcsAsThereMayBe(t *testing.T) {
	n, f := network(2), make([]int64, 2000)
	for i := range int64(2000) {
		n.Arcs = append(n.Arcs, api.Arc{From: 1, To: 2, Cap: 2000 - i})
	}
	var leads []int
	for i := range 2000 {
		leads = append(leads, 2*i)
	}
	for _, least := range []int{1, 2, 1000, 1999, 2000} {
		tryLevel(t, n, f, int64(least), []int{-1, 0, 1}, leads[:2001-least])
	}
	tryLevel(t, n, f, 2001, []int{-1, 0, -1}, nil)
}

// ring goes round by all nodes that there may be; the same amount flows on all of its arcs.
func ring(amount int64) (api.Net, []int64) {
	n := network(500)
	for v := 1; v <= 500; v++ {
		n.Arcs = append(n.Arcs, api.Arc{From: v, To: v%500 + 1, Cap: 2})
	}
	return n, slices.Repeat([]int64{amount}, 500)
}

func TestL1AsManyNodesAsThereMayBe(t *testing.T) {
	forth, back, both := []int{-1, 0}, []int{-1, 0}, []int{-1, 0}
	for v := 2; v <= 500; v++ {
		forth = append(forth, v-1)
		back = append(back, 501-v)
		both = append(both, min(v-1, 501-v))
	}
	var leadsForth, leadsBack, leadsBoth []int
	for i := range 499 {
		leadsForth = append(leadsForth, 2*i)
		leadsBack = append(leadsBack, 2*i+3)
	}
	leadsBoth = append(leadsBoth, leadsForth[:250]...)
	leadsBoth = append(leadsBoth, leadsBack[249:]...)
	n, f := ring(0)
	tryLevel(t, n, f, 2, forth, leadsForth)
	n, f = ring(2)
	tryLevel(t, n, f, 2, back, leadsBack)
	n, f = ring(1)
	tryLevel(t, n, f, 1, both, leadsBoth)
}

func TestL1WrongNetworks(t *testing.T) {
	arc := api.Arc{From: 1, To: 2, Cap: 5}
	for _, c := range []struct {
		n api.Net
		e api.Errno
	}{
		{api.Net{}, api.ErrRange},
		{network(1), api.ErrRange},
		{network(501, arc), api.ErrRange},
		{network(lowest, arc), api.ErrRange},
		{network(most, arc), api.ErrRange},
		{api.Net{Nodes: 2, Source: 0, Sink: 2}, api.ErrNode},
		{api.Net{Nodes: 2, Source: 1, Sink: 3}, api.ErrNode},
		{api.Net{Nodes: 2, Source: lowest, Sink: most}, api.ErrNode},
		{api.Net{Nodes: 2, Source: 2, Sink: 2}, api.ErrSame},
		{network(2, slices.Repeat([]api.Arc{arc}, 2001)...), api.ErrCount},
		{network(2, arc, api.Arc{From: 3, To: 1}), api.ErrNode},
		{network(2, arc, api.Arc{From: 1, To: -1}), api.ErrNode},
		{network(2, arc, api.Arc{From: 1, To: 2, Cap: -1}), api.ErrRange},
		{network(2, arc, api.Arc{From: 1, To: 2, Cap: most}), api.ErrSum},
	} {
		for _, f := range [][]int64{nil, {-1}, make([]int64, len(c.n.Arcs)), slices.Repeat([]int64{1}, len(c.n.Arcs)), {most, lowest}} {
			for _, least := range []int64{lowest, 0, 1, most} {
				tryFault(t, c.n, f, least, c.e)
			}
		}
	}
}

func TestL1NoFlows(t *testing.T) {
	n := sample()
	for _, least := range []int64{lowest, -1, 0, 1, 2, most} {
		for _, f := range [][]int64{nil, {}, {-1}, make([]int64, 9), make([]int64, 11), make([]int64, 20)} {
			tryFault(t, n, f, least, api.ErrCount)
		}
		tryFault(t, network(2), []int64{0}, least, api.ErrCount)
		for i, arc := range n.Arcs {
			for _, amount := range []int64{lowest, -1, arc.Cap + 1, most} {
				f := sampleFlow()
				f[i] = amount
				tryFault(t, n, f, least, api.ErrRange)
			}
		}
		for _, i := range []int{0, 1, 2, 3, 4} {
			f := sampleFlow()
			f[i]--
			tryFault(t, n, f, least, api.ErrState)
		}
	}
}

func TestL1Least(t *testing.T) {
	for _, least := range []int64{lowest, lowest + 1, -1 << 32, -1, 0} {
		tryFault(t, sample(), sampleFlow(), least, api.ErrRange)
		tryFault(t, network(2), nil, least, api.ErrRange)
	}
}

// P3 and P4: nothing is written into, lists are new, and what lies behind a list's length is neither read nor written.
func TestL1NothingIsWrittenInto(t *testing.T) {
	arcs, f := append(sample().Arcs, api.Arc{From: 2, To: 5, Cap: 9}), append(sampleFlow(), 7)
	keptArcs, keptF := slices.Clone(arcs), slices.Clone(f)
	n := sample()
	n.Arcs = arcs[:10]
	for range 3 {
		tryLevel(t, n, f[:10], 1, []int{-1, -1, 0, 1, 2, 3, -1, 4, -1}, []int{0, 2, 8, 14})
		tryFault(t, n, f[:10], 0, api.ErrRange)
		levels, _ := Levels(n, f[:10], 1)
		leads, _ := Leads(n, f[:10], 1)
		clear(levels)
		clear(leads)
		_, _ = append(levels, 5), append(leads, 5)
	}
	if !slices.Equal(arcs, keptArcs) || !slices.Equal(f, keptF) {
		t.Error(arcs, f)
	}
}

// levelsOf goes by the words: a node's level is the least k with a walk of k tracks to it.
func levelsOf(n api.Net, f []int64, least int64) []int {
	l, at := slices.Repeat([]int{-1}, n.Nodes+1), make([]bool, n.Nodes+1)
	at[n.Source] = true
	for k := range n.Nodes {
		next := make([]bool, n.Nodes+1)
		for i, arc := range n.Arcs {
			next[arc.To] = next[arc.To] || at[arc.From] && arc.Cap-f[i] >= least
			next[arc.From] = next[arc.From] || at[arc.To] && f[i] >= least
		}
		for v := range l {
			if at[v] && l[v] < 0 {
				l[v] = k
			}
		}
		at = next
	}
	return l
}

// leadsOf goes by the words, arc by arc.
func leadsOf(n api.Net, f []int64, least int64, levels []int) []int {
	var l []int
	for i, arc := range n.Arcs {
		from, to := levels[arc.From], levels[arc.To]
		if arc.Cap-f[i] >= least && from >= 0 && to == from+1 {
			l = append(l, 2*i)
		}
		if f[i] >= least && to >= 0 && from == to+1 {
			l = append(l, 2*i+1)
		}
	}
	return l
}

// smallFlows are the flows of all networks of four nodes and three arcs, of all ends, with capacities of 0 to 2.
func smallFlows(yield func(api.Net, []int64) bool) {
	for code := range 16 * 16 * 16 {
		var arcs []api.Arc
		for i, ends := range []int{code % 16, code / 16 % 16, code / 256} {
			arcs = append(arcs, api.Arc{From: 1 + ends/4, To: 1 + ends%4, Cap: int64(ends+i) % 3})
		}
		for amounts := range int64(27) {
			f := []int64{amounts % 3, amounts / 3 % 3, amounts / 9}
			for _, n := range []api.Net{{Nodes: 4, Source: 1, Sink: 4, Arcs: arcs}, {Nodes: 4, Source: 3, Sink: 2, Arcs: arcs}} {
				if flow.Check(n, f) == api.OK && !yield(n, f) {
					return
				}
			}
		}
	}
}

// greaterFlows lead as much as there is room for along one shortest walk after the other, until there is none, in a network whose arcs go forth and back by a rule.
func greaterFlows(yield func(api.Net, []int64) bool) {
	n := network(40)
	for i := range 160 {
		n.Arcs = append(n.Arcs, api.Arc{From: 1 + i*7%40, To: 1 + (i*i+3*i+i/6)%40, Cap: int64(1 + i%9)})
	}
	f, more := make([]int64, 160), true
	for more && yield(n, f) {
		f, more = pushed(n, f)
	}
}

// pushed takes the walk from the sink backwards: each node on it has a track that leads on to it.
func pushed(n api.Net, f []int64) ([]int64, bool) {
	rooms, _ := residual.Room(n, f)
	levels := levelsOf(n, f, 1)
	leads := leadsOf(n, f, 1, levels)
	var walk []int
	var amount int64 = most
	for v := n.Sink; levels[v] > 0; {
		i := slices.IndexFunc(leads, func(r int) bool {
			_, to := residual.Ends(n, r)
			return to == v
		})
		walk = append(walk, leads[i])
		amount = min(amount, rooms[leads[i]])
		v, _ = residual.Ends(n, leads[i])
	}
	slices.Reverse(walk)
	l, e := residual.Push(n, f, walk, amount)
	return l, e == api.OK
}

func tryByTheWords(t *testing.T, n api.Net, f []int64, least int64) {
	t.Helper()
	levels := levelsOf(n, f, least)
	tryLevel(t, n, f, least, levels, leadsOf(n, f, least, levels))
}

func TestL1ByTheWords(t *testing.T) {
	for n, f := range smallFlows {
		for least := int64(1); least <= 3; least++ {
			tryByTheWords(t, n, f, least)
		}
	}
}

func TestL1ByTheWordsOfGreaterNetworks(t *testing.T) {
	count := 0
	for n, f := range greaterFlows {
		for least := int64(1); least <= 10; least++ {
			tryByTheWords(t, n, f, least)
		}
		count++
	}
	if count < 5 {
		t.Error(count)
	}
}

// tryFollows goes by all tracks with room, and looks whether each node above the source has one that leads on to it.
func tryFollows(t *testing.T, n api.Net, f []int64, least int64) {
	t.Helper()
	levels, _ := Levels(n, f, least)
	leads, _ := Leads(n, f, least)
	met, _ := residual.Reach(n, f, least)
	rooms, _ := residual.Room(n, f)
	for r, room := range rooms {
		from, to := residual.Ends(n, r)
		if room >= least && levels[from] >= 0 && (levels[to] < 0 || levels[to] > levels[from]+1) {
			t.Errorf("%v, %d, %d: track %d goes from level %d to %d", n, f, least, r, levels[from], levels[to])
		}
	}
	for v, level := range levels {
		led := slices.ContainsFunc(leads, func(r int) bool {
			_, to := residual.Ends(n, r)
			return to == v
		})
		if led != (level > 0) {
			t.Errorf("%v, %d, %d: node %d of level %d: a track leads on to it: %v", n, f, least, v, level, led)
		}
		if met[v] != (level >= 0) {
			t.Errorf("%v, %d, %d: node %d of level %d is reached: %v", n, f, least, v, level, met[v])
		}
	}
}

func TestL2WhatFollows(t *testing.T) {
	for n, f := range smallFlows {
		for least := int64(1); least <= 2; least++ {
			tryFollows(t, n, f, least)
		}
	}
	for n, f := range greaterFlows {
		for least := int64(1); least <= 10; least++ {
			tryFollows(t, n, f, least)
		}
	}
	for amount := range int64(3) {
		n, f := ring(amount)
		tryFollows(t, n, f, 1)
		tryFollows(t, n, f, 2)
	}
}
