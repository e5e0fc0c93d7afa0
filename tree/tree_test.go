package tree

import (
	"math"
	"slices"
	"testing"

	"raceway/api"
	"raceway/flow"
	"raceway/level"
	"raceway/plain"
	"raceway/residual"
)

const (
	most   = math.MaxInt64
	lowest = math.MinInt64
)

// network has its source at 1 and its sink at its last node.
func network(nodes int, arcs ...api.Arc) api.Net {
	return api.Net{Nodes: nodes, Source: 1, Sink: nodes, Arcs: arcs}
}

// sample has a loop, arcs beside one another, one that is narrow, one without a capacity, one behind the sink, and one back to the source. Its source is 2, its sink 5.
func sample() api.Net {
	return api.Net{Nodes: 8, Source: 2, Sink: 5, Arcs: []api.Arc{
		{From: 2, To: 6, Cap: 9},
		{From: 6, To: 8, Cap: 9},
		{From: 6, To: 4, Cap: 1},
		{From: 4, To: 5, Cap: 6},
		{From: 2, To: 3, Cap: 7},
		{From: 3, To: 4, Cap: 4},
		{From: 3, To: 4, Cap: 3},
		{From: 8, To: 5, Cap: 9},
		{From: 5, To: 7, Cap: 9},
		{From: 4, To: 4, Cap: 9},
		{From: 3, To: 2, Cap: 9},
		{From: 3, To: 1, Cap: 0},
		{From: 4, To: 5, Cap: 1},
	}}
}

// crossed leads over node 2 back to node 3, by the arc on which 5 flow.
func crossed() (api.Net, []int64) {
	return network(6,
		api.Arc{From: 1, To: 2, Cap: 8},
		api.Arc{From: 3, To: 2, Cap: 5},
		api.Arc{From: 1, To: 3, Cap: 5},
		api.Arc{From: 3, To: 4, Cap: 7},
		api.Arc{From: 4, To: 6, Cap: 6},
		api.Arc{From: 2, To: 5, Cap: 5},
		api.Arc{From: 5, To: 6, Cap: 5},
	), []int64{0, 5, 5, 0, 0, 5, 5}
}

// beside are arcs from 1 to 2, of these capacities.
func beside(capacities ...int64) api.Net {
	n := network(2)
	for _, c := range capacities {
		n.Arcs = append(n.Arcs, api.Arc{From: 1, To: 2, Cap: c})
	}
	return n
}

// tryBlock holds amounts and walks against what is wanted, and all of it against plain.Block.
func tryBlock(t *testing.T, n api.Net, f []int64, least int64, want []int64, walks int) {
	t.Helper()
	if l, count, _, e := Block(n, f, least); !slices.Equal(l, want) || count != walks || e != api.OK {
		t.Errorf("Block(%v, %d, %d): %d, %d walks, %d; want %d, %d", n, f, least, l, count, e, want, walks)
	}
	trySame(t, n, f, least)
}

// tryFault: with an error all else is nothing.
func tryFault(t *testing.T, n api.Net, f []int64, least int64, want api.Errno) {
	t.Helper()
	if l, walks, steps, e := Block(n, f, least); len(l) != 0 || walks != 0 || steps != 0 || e != want {
		t.Errorf("Block(%v, %d, %d): %d, %d walks, %d steps, %d; want %d", n, f, least, l, walks, steps, e, want)
	}
	if _, _, e := plain.Block(n, f, least); e != want {
		t.Errorf("plain.Block(%v, %d, %d): %d; want %d", n, f, least, e, want)
	}
}

// trySame holds Block against plain.Block, looks at the steps, and tells both of them and the walks.
func trySame(t *testing.T, n api.Net, f []int64, least int64) (int64, []plain.Walk) {
	t.Helper()
	want, all, fault := plain.Block(n, f, least)
	l, walks, steps, e := Block(n, f, least)
	if !slices.Equal(l, want) || walks != len(all) || e != fault {
		t.Errorf("Block(%v, %d, %d): %d, %d walks, %d; plain.Block: %d, %d, %d", n, f, least, l, walks, e, want, len(all), fault)
	}
	if e == api.OK && (steps < int64(walks) || steps > Most(n)) || e != api.OK && steps != 0 {
		t.Errorf("Block(%v, %d, %d): %d steps, %d walks, %d", n, f, least, steps, walks, e)
	}
	for _, w := range all {
		if steps < int64(len(w.Tracks)) {
			t.Errorf("Block(%v, %d, %d): %d steps, walk %v", n, f, least, steps, w)
		}
	}
	return steps, all
}

func TestE1Example(t *testing.T) {
	n := beside(5, 3)
	tryBlock(t, n, []int64{0, 0}, 1, []int64{5, 3}, 2)
	tryBlock(t, n, []int64{0, 0}, 3, []int64{5, 3}, 2)
	tryBlock(t, n, []int64{0, 0}, 4, []int64{5, 0}, 1)
	tryBlock(t, n, []int64{0, 0}, 5, []int64{5, 0}, 1)
	tryBlock(t, n, []int64{4, 0}, 2, []int64{4, 3}, 1)
	tryBlock(t, n, []int64{0, 0}, 6, []int64{0, 0}, 0)
	tryBlock(t, n, []int64{5, 3}, 1, []int64{5, 3}, 0)
	tryBlock(t, n, []int64{1, 2}, 5, []int64{1, 2}, 0)
}

func TestE1WalksHangOnLeast(t *testing.T) {
	n, f := sample(), make([]int64, 13)
	tryBlock(t, n, f, 1, []int64{9, 9, 0, 6, 7, 4, 3, 9, 0, 0, 0, 0, 1}, 4)
	tryBlock(t, n, f, 2, []int64{9, 9, 0, 6, 6, 4, 2, 9, 0, 0, 0, 0, 0}, 3)
	tryBlock(t, n, f, 3, []int64{9, 9, 0, 4, 4, 4, 0, 9, 0, 0, 0, 0, 0}, 2)
	tryBlock(t, n, f, 5, []int64{9, 9, 0, 0, 0, 0, 0, 9, 0, 0, 0, 0, 0}, 1)
	for _, least := range []int64{10, 1 << 32, 1<<32 + 1, api.MaxSum, 1 << 62, 1<<62 + 1, most} {
		tryBlock(t, n, f, least, f, 0)
	}
}

// A walk leaves too little on more than one of its tracks, nearer to the source and nearer to the sink than the narrowest one.
func TestE1TracksThatHaveTooLittleLeft(t *testing.T) {
	n := network(5,
		api.Arc{From: 1, To: 2, Cap: 9},
		api.Arc{From: 2, To: 3, Cap: 7},
		api.Arc{From: 3, To: 4, Cap: 6},
		api.Arc{From: 4, To: 5, Cap: 8},
		api.Arc{From: 3, To: 4, Cap: 9},
		api.Arc{From: 2, To: 3, Cap: 9},
		api.Arc{From: 4, To: 5, Cap: 2},
		api.Arc{From: 1, To: 2, Cap: 5},
	)
	f := make([]int64, 8)
	tryBlock(t, n, f, 1, []int64{9, 7, 6, 8, 4, 3, 2, 1}, 5)
	tryBlock(t, n, f, 2, []int64{8, 6, 6, 8, 4, 4, 2, 2}, 3)
	tryBlock(t, n, f, 3, []int64{6, 6, 6, 6, 0, 0, 0, 0}, 1)
	tryBlock(t, n, f, 7, []int64{7, 7, 0, 7, 7, 0, 0, 0}, 1)
	tryBlock(t, n, f, 9, f, 0)
	tryBlock(t, n, []int64{3, 0, 3, 3, 0, 3, 0, 0}, 4, []int64{8, 5, 3, 8, 5, 3, 0, 0}, 1)
}

// A walk over a track back takes off what flows on its arc.
func TestE1WalksOverTracksBack(t *testing.T) {
	n, f := crossed()
	tryBlock(t, n, f, 1, []int64{5, 0, 5, 5, 5, 5, 5}, 1)
	tryBlock(t, n, f, 5, []int64{5, 0, 5, 5, 5, 5, 5}, 1)
	tryBlock(t, n, f, 6, f, 0)
	n.Arcs[3].Cap = 2
	tryBlock(t, n, f, 1, []int64{2, 3, 5, 2, 2, 5, 5}, 1)
	both := network(2, api.Arc{From: 2, To: 1, Cap: 4}, api.Arc{From: 1, To: 2, Cap: 4})
	tryBlock(t, both, []int64{3, 1}, 1, []int64{0, 4}, 2)
}

// Behind the first walk there is one by a longer way, and one that the first walk opened: they lead on only in a later phase.
func TestE1LeadsAsTheyWereAtFirst(t *testing.T) {
	n := network(4,
		api.Arc{From: 1, To: 2, Cap: 3},
		api.Arc{From: 2, To: 4, Cap: 1},
		api.Arc{From: 2, To: 3, Cap: 2},
		api.Arc{From: 3, To: 4, Cap: 2},
	)
	tryBlock(t, n, make([]int64, 4), 1, []int64{1, 1, 0, 0}, 1)
	tryBlock(t, n, []int64{1, 1, 0, 0}, 1, []int64{3, 1, 2, 2}, 1)
	tryBlock(t, n, make([]int64, 4), 2, []int64{2, 0, 2, 2}, 1)
	opened := network(4,
		api.Arc{From: 1, To: 2, Cap: 1},
		api.Arc{From: 2, To: 3, Cap: 1},
		api.Arc{From: 3, To: 4, Cap: 1},
		api.Arc{From: 1, To: 3, Cap: 1},
		api.Arc{From: 2, To: 4, Cap: 1},
	)
	tryBlock(t, opened, []int64{1, 1, 1, 0, 0}, 1, []int64{1, 0, 1, 1, 1}, 1)
	tryBlock(t, opened, make([]int64, 5), 1, []int64{1, 0, 1, 1, 1}, 2)
}

func TestE1NoWalkAtAll(t *testing.T) {
	arc := func(from, to int) api.Arc { return api.Arc{From: from, To: to, Cap: 5} }
	for _, n := range []api.Net{
		network(2),
		network(500),
		network(2, arc(2, 1)),
		network(2, arc(1, 1), arc(2, 2)),
		network(3, arc(1, 2), arc(1, 2), arc(2, 1)),
		network(4, arc(1, 2), arc(3, 4)),
		network(4, arc(1, 2), arc(2, 3), arc(1, 3), arc(4, 3)),
		{Nodes: 3, Source: 3, Sink: 1, Arcs: []api.Arc{arc(1, 2), arc(2, 3)}},
	} {
		f := make([]int64, len(n.Arcs))
		tryBlock(t, n, f, 1, f, 0)
		tryBlock(t, n, f, most, f, 0)
	}
	tryBlock(t, network(3, arc(2, 3), arc(3, 2)), []int64{2, 2}, 1, []int64{2, 2}, 0)
}

func TestE1FewestAndGreatest(t *testing.T) {
	tryBlock(t, network(2), []int64{}, most, nil, 0)
	great := beside(api.MaxSum)
	tryBlock(t, great, []int64{0}, 1, []int64{api.MaxSum}, 1)
	tryBlock(t, great, []int64{0}, api.MaxSum, []int64{api.MaxSum}, 1)
	tryBlock(t, great, []int64{1}, api.MaxSum, []int64{1}, 0)
	tryBlock(t, great, []int64{0}, 1<<62, []int64{0}, 0)
	tryBlock(t, great, []int64{0}, most, []int64{0}, 0)
	back := network(2, api.Arc{From: 2, To: 1, Cap: api.MaxSum})
	tryBlock(t, back, []int64{api.MaxSum}, 1, []int64{0}, 1)
	tryBlock(t, back, []int64{api.MaxSum}, most, []int64{api.MaxSum}, 0)
}

// All room of the source together is as great as there may be: what goes to the sink behind the first walks is nearly all of top.
func TestE1AllRoomTogether(t *testing.T) {
	for _, l := range [][]int64{{api.MaxSum - 1, 1}, {1, api.MaxSum - 1}, {api.MaxSum - 3, 0, 2, 1}, {1 << 61, 1<<61 - 2, 1}, {0, 0, api.MaxSum}} {
		n, walks := beside(l...), 0
		for _, c := range l {
			if c > 0 {
				walks++
			}
		}
		tryBlock(t, n, make([]int64, len(l)), 1, l, walks)
		way := network(3)
		for _, c := range l {
			way.Arcs = append(way.Arcs, api.Arc{From: 1, To: 2, Cap: c / 2}, api.Arc{From: 2, To: 3, Cap: c - c/2})
		}
		for _, least := range []int64{1, 2, 1 << 60, 1 << 61} {
			trySame(t, way, make([]int64, len(way.Arcs)), least)
		}
	}
}

func TestE1AsManyArcsAsThereMayBe(t *testing.T) {
	n, f := network(2), make([]int64, 2000)
	for i := range 2000 {
		n.Arcs = append(n.Arcs, api.Arc{From: 1, To: 2, Cap: int64(2000 - i)})
	}
	for _, least := range []int{1, 2, 1000, 1999, 2000, 2001} {
		want, count := make([]int64, 2000), 2001-least
		for i := range count {
			want[i] = n.Arcs[i].Cap
		}
		tryBlock(t, n, f, int64(least), want, count)
	}
}

// ring goes round by all nodes that there may be; the same amount flows on all of its arcs.
func ring(amount int64) (api.Net, []int64) {
	n := network(500)
	for v := 1; v <= 500; v++ {
		n.Arcs = append(n.Arcs, api.Arc{From: v, To: v%500 + 1, Cap: 2})
	}
	return n, slices.Repeat([]int64{amount}, 500)
}

func TestE1AsManyNodesAsThereMayBe(t *testing.T) {
	filled := append(slices.Repeat([]int64{2}, 499), 0)
	n, f := ring(0)
	tryBlock(t, n, f, 1, filled, 1)
	tryBlock(t, n, f, 2, filled, 1)
	tryBlock(t, n, f, 3, f, 0)
	n, f = ring(1)
	tryBlock(t, n, f, 1, append(slices.Repeat([]int64{1}, 499), 0), 1)
	tryBlock(t, n, f, 2, f, 0)
}

func TestE1WrongNetworks(t *testing.T) {
	arc := api.Arc{From: 1, To: 2, Cap: 5}
	for _, c := range []struct {
		n api.Net
		e api.Errno
	}{
		{api.Net{}, api.ErrRange},
		{network(-1), api.ErrRange},
		{network(1), api.ErrRange},
		{network(501, arc), api.ErrRange},
		{network(lowest, arc), api.ErrRange},
		{network(most, arc), api.ErrRange},
		{api.Net{Nodes: 2, Source: 0, Sink: 2}, api.ErrNode},
		{api.Net{Nodes: 2, Source: 1, Sink: 3}, api.ErrNode},
		{api.Net{Nodes: 2, Source: lowest, Sink: most}, api.ErrNode},
		{api.Net{Nodes: 2, Source: 2, Sink: 2}, api.ErrSame},
		{network(2, slices.Repeat([]api.Arc{arc}, 2001)...), api.ErrCount},
		{network(2, arc, api.Arc{From: 3, To: 1}), api.ErrNode},
		{network(2, arc, api.Arc{From: 1, To: -1}), api.ErrNode},
		{network(2, arc, api.Arc{From: 1, To: 2, Cap: -1}), api.ErrRange},
		{network(2, arc, api.Arc{From: 1, To: 2, Cap: most}), api.ErrSum},
		{beside(api.MaxSum, 1), api.ErrSum},
	} {
		for _, f := range [][]int64{nil, {-1}, make([]int64, len(c.n.Arcs)), slices.Repeat([]int64{1}, len(c.n.Arcs)), {most, lowest}} {
			for _, least := range []int64{lowest, 0, 1, most} {
				tryFault(t, c.n, f, least, c.e)
			}
		}
	}
}

func TestE1NoFlows(t *testing.T) {
	n := sample()
	for _, least := range []int64{lowest, -1, 0, 1, 2, most} {
		for _, f := range [][]int64{nil, {}, {-1}, make([]int64, 12), make([]int64, 14), make([]int64, 26)} {
			tryFault(t, n, f, least, api.ErrCount)
		}
		tryFault(t, network(2), []int64{0}, least, api.ErrCount)
		for i, arc := range n.Arcs {
			for _, amount := range []int64{lowest, -1, arc.Cap + 1, most} {
				f := make([]int64, 13)
				f[i] = amount
				tryFault(t, n, f, least, api.ErrRange)
			}
		}
		for _, i := range []int{0, 1, 2, 3, 4, 5, 6, 7, 8, 10, 12} {
			f := make([]int64, 13)
			f[i] = 1
			tryFault(t, n, f, least, api.ErrState)
		}
	}
}

func TestE1Least(t *testing.T) {
	for _, least := range []int64{lowest, lowest + 1, -1 << 32, -1, 0} {
		tryFault(t, sample(), make([]int64, 13), least, api.ErrRange)
		tryFault(t, network(2), nil, least, api.ErrRange)
	}
}

// P3 and P4: nothing is written into, lists are new, calls know nothing of one another, and what lies behind a list's length is neither read nor written.
func TestE1NothingIsWrittenInto(t *testing.T) {
	arcs, f := append(sample().Arcs, api.Arc{From: 2, To: 5, Cap: 9}), append(make([]int64, 13), 7)
	keptArcs, keptF := slices.Clone(arcs), slices.Clone(f)
	n := sample()
	n.Arcs = arcs[:13]
	_, _, first, _ := Block(n, f[:13], 1)
	for range 3 {
		tryBlock(t, n, f[:13], 1, []int64{9, 9, 0, 6, 7, 4, 3, 9, 0, 0, 0, 0, 1}, 4)
		tryFault(t, n, f[:13], 0, api.ErrRange)
		still, _, _, _ := Block(n, f[:13], most)
		l, _, steps, _ := Block(n, f[:13], 1)
		if steps != first {
			t.Error(steps, first)
		}
		clear(l)
		still[0] = 5
		_, _ = append(l, 5), append(still, 5)
		if bound := Most(n); bound != 20000*(8+13)*(2+3)*(2+3) {
			t.Error(bound)
		}
	}
	if !slices.Equal(arcs, keptArcs) || !slices.Equal(f, keptF) {
		t.Error(arcs, f)
	}
}

// turnsOf does what Block does, and tells the turns of its loops and the steps of its trees.
func turnsOf(n api.Net, f []int64, least int64) (int64, int64) {
	rooms, _ := residual.Room(n, f)
	leads, _ := level.Leads(n, f, least)
	turns := int64(0)
	s := newSearch(n, rooms, leads, least, func() { turns++ })
	s.block()
	s.amounts(f, leads)
	return turns, s.trees.Steps()
}

// The turns are those of the loops over values, tracks that lead on, Root, tracks that are tried, nodes that hang on one that is left, nodes that hang at the end, and tracks that lead on.
func TestE1StepsOfTheTreesAndTurnsOfLoops(t *testing.T) {
	arc := func(from, to int) api.Arc { return api.Arc{From: from, To: to, Cap: 5} }
	full, narrow := arc(1, 2), arc(1, 2)
	full.Cap, narrow.Cap = 0, 1
	for _, c := range []struct {
		n    api.Net
		want int64
	}{
		{network(2), 3 + 0 + 1 + 0 + 0 + 3 + 0},
		{network(2, full), 3 + 0 + 1 + 0 + 0 + 3 + 0},
		{network(2, arc(1, 2)), 3 + 1 + 4 + 2 + 0 + 3 + 1},
		{beside(5, 3), 3 + 2 + 7 + 4 + 0 + 3 + 2},
		{network(3, arc(1, 2), arc(1, 2)), 4 + 2 + 3 + 3 + 2 + 4 + 2},
		{network(4, arc(1, 2), arc(1, 3), arc(2, 4)), 5 + 3 + 8 + 6 + 2 + 5 + 3},
		// Node 2 hangs below 4 still, when 5, to which it has a track too, is left.
		{network(6, narrow, arc(2, 4), arc(2, 5), arc(1, 3), arc(3, 5), narrow, arc(4, 6)), 7 + 7 + 13 + 10 + 3 + 7 + 7},
	} {
		f := make([]int64, len(c.n.Arcs))
		turns, calls := turnsOf(c.n, f, 1)
		_, _, steps, e := Block(c.n, f, 1)
		if turns != c.want || calls < 1 || steps != turns+calls || e != api.OK {
			t.Errorf("Block(%v): %d steps, %d: %d turns, %d of the trees; want %d turns", c.n, steps, e, turns, calls, c.want)
		}
	}
}

func TestE2MostByTheFormula(t *testing.T) {
	for _, c := range []struct {
		nodes, log int64
	}{{2, 1}, {3, 2}, {4, 2}, {5, 3}, {8, 3}, {9, 4}, {64, 6}, {65, 7}, {256, 8}, {257, 9}, {500, 9}} {
		for _, arcs := range []int64{0, 1, 2, 15, 1999, 2000} {
			n := network(int(c.nodes), slices.Repeat([]api.Arc{{From: 1, To: 2, Cap: 7}}, int(arcs))...)
			if got, want := Most(n), 20000*(c.nodes+arcs)*(2+c.log)*(2+c.log); got != want {
				t.Errorf("Most of %d nodes and %d arcs: %d; want %d", c.nodes, arcs, got, want)
			}
		}
	}
	if bound := Most(network(500, make([]api.Arc, 2000)...)); bound != 6050000000 {
		t.Error(bound)
	}
}

// Of networks that are not right some answer comes.
func TestE2MostOfWrongNetworks(t *testing.T) {
	for _, nodes := range []int{lowest, lowest + 1, -501, -1, 0, 1, 501, 1 << 32, 1<<62 + 1, most - 1, most} {
		for _, arcs := range []int{0, 1, 2001, 100000} {
			n := network(nodes, make([]api.Arc, arcs)...)
			if Most(n) != Most(n) {
				t.Error(nodes, arcs)
			}
		}
	}
	Most(api.Net{})
	Most(api.Net{Source: most, Sink: lowest, Arcs: []api.Arc{{From: lowest, To: most, Cap: lowest}}})
}

// lane is a row of so many nodes, one behind the other, and arcs beside one another from the last of them to the sink.
func lane(nodes, arcs int) api.Net {
	n := network(nodes)
	for v := 1; v < nodes-1; v++ {
		n.Arcs = append(n.Arcs, api.Arc{From: v, To: v + 1, Cap: 1 << 40})
	}
	for i := len(n.Arcs); i < arcs; i++ {
		n.Arcs = append(n.Arcs, api.Arc{From: nodes - 1, To: nodes, Cap: int64(1 + i%9)})
	}
	return n
}

// A walk along a path takes few steps, however long it is: without the trees it would take ten times as many on one that is ten times as long.
func TestE2FewStepsForEachWalk(t *testing.T) {
	short, long := lane(50, 1550), lane(500, 2000)
	few, walks := trySame(t, short, make([]int64, 1550), 1)
	many, all := trySame(t, long, make([]int64, 2000), 1)
	if len(walks) != 1502 || len(all) != 1502 || len(all[0].Tracks) != 499 || many > 2*few {
		t.Error(few, len(walks), many, len(all))
	}
}

// layers have two nodes each, and all arcs from each to the next one: more walks than could ever be gone through one by one. The last layer has no arc, so that none of them comes to the sink.
func layers(count int) api.Net {
	n := network(2*count+2, api.Arc{From: 1, To: 2, Cap: 1}, api.Arc{From: 1, To: 3, Cap: 1})
	for v := 2; v < 2*count; v += 2 {
		for _, from := range []int{v, v + 1} {
			n.Arcs = append(n.Arcs, api.Arc{From: from, To: v + 2, Cap: 1}, api.Arc{From: from, To: v + 3, Cap: 1})
		}
	}
	return n
}

func TestE2NoDeadEndIsTriedTwice(t *testing.T) {
	n := layers(249)
	f := make([]int64, len(n.Arcs))
	tryBlock(t, n, f, 1, f, 0)
	n.Arcs = append(n.Arcs, api.Arc{From: 499, To: 500, Cap: 1})
	if _, walks := trySame(t, n, append(f, 0), 1); len(walks) != 1 {
		t.Error(walks)
	}
}

// wide networks have rows of nodes with arcs to the next row, to their own, to the one before and to the one behind the next, by a rule, and as many arcs as there may be.
func wide(capacity func(i int) int64) api.Net {
	n := network(402)
	for i := range 10 {
		n.Arcs = append(n.Arcs, api.Arc{From: 1, To: 2 + i, Cap: 10 * capacity(i)}, api.Arc{From: 392 + i, To: 402, Cap: 10 * capacity(i)})
	}
	for i := range 1980 {
		row, ahead := i%39, []int{1, 1, 1, 0, 1, -1, 1, 2}[i%8]
		to := min(max(row+ahead, 0), 39)
		n.Arcs = append(n.Arcs, api.Arc{From: 2 + 10*row + i*7/39%10, To: 2 + 10*to + (i*i+i/3)%10, Cap: capacity(i)})
	}
	return n
}

// tryPhases leads one flow that blocks behind the other through a network, until the sink is not come to, and tells how many there were.
func tryPhases(t *testing.T, n api.Net, least int64) int {
	t.Helper()
	f := make([]int64, len(n.Arcs))
	for phases := 0; ; phases++ {
		for _, greater := range []int64{0, 1, 3, 20, 1 << 50} {
			trySame(t, n, f, least+greater)
		}
		_, walks := trySame(t, n, f, least)
		if len(walks) == 0 {
			return phases
		}
		f, _, _, _ = Block(n, f, least)
	}
}

func TestE3WideNetworks(t *testing.T) {
	for _, capacity := range []func(i int) int64{
		func(i int) int64 { return int64(1 + i*i%97) },
		func(i int) int64 { return 1 },
		func(i int) int64 { return int64(i*i%97)<<40 + int64(i%5) },
	} {
		n := wide(capacity)
		for _, least := range []int64{1, 9} {
			if phases := tryPhases(t, n, least); capacity(1) >= least && phases < 3 {
				t.Error(phases)
			}
		}
	}
}

// smallFlows are the flows of all networks of four nodes and three arcs, of all ends, with capacities of 0 to 2.
func smallFlows(yield func(api.Net, []int64) bool) {
	for code := range 16 * 16 * 16 {
		var arcs []api.Arc
		for i, ends := range []int{code % 16, code / 16 % 16, code / 256} {
			arcs = append(arcs, api.Arc{From: 1 + ends/4, To: 1 + ends%4, Cap: int64(ends+i) % 3})
		}
		for amounts := range int64(27) {
			f := []int64{amounts % 3, amounts / 3 % 3, amounts / 9}
			for _, n := range []api.Net{{Nodes: 4, Source: 1, Sink: 4, Arcs: arcs}, {Nodes: 4, Source: 3, Sink: 2, Arcs: arcs}} {
				if flow.Check(n, f) == api.OK && !yield(n, f) {
					return
				}
			}
		}
	}
}

func TestE3AllSmallFlows(t *testing.T) {
	count := 0
	for n, f := range smallFlows {
		for least := int64(0); least <= 3; least++ {
			trySame(t, n, f, least)
		}
		count++
	}
	if count < 1000 {
		t.Error(count)
	}
}

// ruled networks have arcs whose ends and capacities go by a rule that hangs on a number. Each fourth arc goes from the source, and each fourth to the sink, so that there are many walks.
func ruled(number int) api.Net {
	nodes := 4 + number%17
	n := network(nodes)
	x := uint32(number + 1)
	for i := range 4*nodes + number%7 {
		x = x*1664525 + 1013904223
		arc := api.Arc{From: 1 + int(x>>8)%nodes, To: 1 + int(x>>16)%nodes, Cap: int64(x>>24) % 10}
		if number%3 == 0 {
			arc.Cap *= 1<<50 + 1
		}
		switch i % 4 {
		case 0:
			arc.From = 1
		case 2:
			arc.To = nodes
		}
		n.Arcs = append(n.Arcs, arc)
	}
	return n
}

func TestE3RuledNetworks(t *testing.T) {
	phases := 0
	for number := range 400 {
		n := ruled(number)
		for least := int64(1); least <= 4; least++ {
			phases += tryPhases(t, n, least)
		}
	}
	if phases < 2000 {
		t.Error(phases)
	}
}

// A flow that goes round by the source and the sink gives walks over tracks back from the one, and to the other.
func TestE3FlowsThatGoRound(t *testing.T) {
	for number := range 200 {
		n := ruled(number)
		f, _, _ := plain.Block(n, make([]int64, len(n.Arcs)), 1)
		turned := n
		turned.Source, turned.Sink = n.Sink, n.Source
		for range 3 {
			for least := int64(1); least <= 4; least++ {
				trySame(t, n, f, least)
			}
			if flow.Check(turned, f) == api.OK {
				f, _, _ = plain.Block(turned, f, 1)
			}
		}
	}
}
