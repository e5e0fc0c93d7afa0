package plain

import (
	"math"
	"slices"
	"testing"

	"raceway/api"
	"raceway/flow"
	"raceway/level"
	"raceway/residual"
)

const (
	most   = math.MaxInt64
	lowest = math.MinInt64
)

// network has its source at 1 and its sink at its last node.
func network(nodes int, arcs ...api.Arc) api.Net {
	return api.Net{Nodes: nodes, Source: 1, Sink: nodes, Arcs: arcs}
}

// sample has a loop, arcs beside one another, one that is narrow, one without a capacity, one behind the sink, and one back to the source. Its source is 2, its sink 5.
func sample() api.Net {
	return api.Net{Nodes: 8, Source: 2, Sink: 5, Arcs: []api.Arc{
		{From: 2, To: 6, Cap: 9},
		{From: 6, To: 8, Cap: 9},
		{From: 6, To: 4, Cap: 1},
		{From: 4, To: 5, Cap: 6},
		{From: 2, To: 3, Cap: 7},
		{From: 3, To: 4, Cap: 4},
		{From: 3, To: 4, Cap: 3},
		{From: 8, To: 5, Cap: 9},
		{From: 5, To: 7, Cap: 9},
		{From: 4, To: 4, Cap: 9},
		{From: 3, To: 2, Cap: 9},
		{From: 3, To: 1, Cap: 0},
		{From: 4, To: 5, Cap: 1},
	}}
}

func sampleLeads() []int { return []int{0, 2, 4, 6, 8, 10, 12, 14, 24} }

// crossed leads over node 2 back to node 3, by the arc on which 5 flow.
func crossed() (api.Net, []int64) {
	return network(6,
		api.Arc{From: 1, To: 2, Cap: 8},
		api.Arc{From: 3, To: 2, Cap: 5},
		api.Arc{From: 1, To: 3, Cap: 5},
		api.Arc{From: 3, To: 4, Cap: 7},
		api.Arc{From: 4, To: 6, Cap: 6},
		api.Arc{From: 2, To: 5, Cap: 5},
		api.Arc{From: 5, To: 6, Cap: 5},
	), []int64{0, 5, 5, 0, 0, 5, 5}
}

func tryNext(t *testing.T, n api.Net, f []int64, leads []int, least int64, want ...int) {
	t.Helper()
	if walk, ok := Next(n, f, leads, least); !slices.Equal(walk, want) || ok != (len(want) > 0) {
		t.Errorf("Next(%v, %d, %d, %d): %d, %v; want %d", n, f, leads, least, walk, ok, want)
	}
}

func sameWalks(a, b []Walk) bool {
	return slices.EqualFunc(a, b, func(v, w Walk) bool {
		return v.Amount == w.Amount && slices.Equal(v.Tracks, w.Tracks)
	})
}

func tryBlock(t *testing.T, n api.Net, f []int64, least int64, want []int64, walks ...Walk) {
	t.Helper()
	l, w, e := Block(n, f, least)
	if !slices.Equal(l, want) || !sameWalks(w, walks) || e != api.OK {
		t.Errorf("Block(%v, %d, %d): %d, %v, %d; want %d, %v", n, f, least, l, w, e, want, walks)
	}
}

func tryFault(t *testing.T, n api.Net, f []int64, least int64, want api.Errno) {
	t.Helper()
	if l, w, e := Block(n, f, least); len(l) != 0 || len(w) != 0 || e != want {
		t.Errorf("Block(%v, %d, %d): %d, %v, %d; want %d", n, f, least, l, w, e, want)
	}
}

func TestB1Example(t *testing.T) {
	n := network(2, api.Arc{From: 1, To: 2, Cap: 5}, api.Arc{From: 1, To: 2, Cap: 3})
	tryNext(t, n, []int64{0, 0}, []int{0, 2}, 1, 0)
	tryNext(t, n, []int64{5, 0}, []int{0, 2}, 1, 2)
	tryNext(t, n, []int64{5, 3}, []int{0, 2}, 1)
	tryNext(t, n, []int64{0, 0}, []int{2}, 1, 2)
	tryNext(t, n, []int64{0, 0}, nil, 1)
	tryNext(t, n, []int64{0, 0}, []int{}, 1)
}

func TestB1TheFirstOfAllWalks(t *testing.T) {
	n, f, leads := sample(), make([]int64, 13), sampleLeads()
	tryNext(t, n, f, leads, 1, 0, 2, 14)
	tryNext(t, n, f, slices.Delete(slices.Clone(leads), 1, 2), 1, 0, 4, 6)
	tryNext(t, n, f, []int{0, 4, 8, 10, 12, 24}, 1, 0, 4, 24)
	tryNext(t, n, f, []int{0, 2, 4, 8, 10, 12, 24}, 1, 0, 4, 24)
	tryNext(t, n, f, []int{0, 2, 4, 6, 8, 10, 12}, 2, 8, 10, 6)
	tryNext(t, n, f, []int{0, 2, 6, 8, 12, 24}, 1, 8, 12, 6)
	tryNext(t, n, f, []int{0, 2, 6, 8, 24}, 1)
	tryNext(t, n, f, []int{2, 4, 6, 10, 12, 14, 24}, 1)
	tryNext(t, n, f, []int{0, 2, 4, 8, 10, 12}, 1)
}

// The walk goes back only as far as it must, and more than one track where it must.
func TestB1BackFromDeadEnds(t *testing.T) {
	n := network(8,
		api.Arc{From: 1, To: 2, Cap: 9},
		api.Arc{From: 2, To: 3, Cap: 9},
		api.Arc{From: 3, To: 4, Cap: 9},
		api.Arc{From: 3, To: 5, Cap: 9},
		api.Arc{From: 2, To: 6, Cap: 9},
		api.Arc{From: 6, To: 5, Cap: 9},
		api.Arc{From: 6, To: 7, Cap: 4},
		api.Arc{From: 7, To: 8, Cap: 9},
		api.Arc{From: 1, To: 6, Cap: 1},
		api.Arc{From: 4, To: 8, Cap: 3},
	)
	f, leads := make([]int64, 10), []int{0, 2, 4, 6, 8, 10, 12, 14, 18}
	tryNext(t, n, f, leads, 3, 0, 2, 4, 18)
	tryNext(t, n, f, leads, 4, 0, 8, 12, 14)
	tryNext(t, n, f, leads, 5)
	tryNext(t, n, []int64{3, 3, 3, 0, 0, 0, 0, 0, 0, 3}, leads, 1, 0, 8, 12, 14)
	tryNext(t, n, []int64{0, 0, 0, 0, 0, 0, 1, 1, 1, 0}, leads, 4)
}

// Rooms are those that f leaves, whatever they were when the tracks led on.
func TestB1RoomsHangOnTheFlow(t *testing.T) {
	n, leads := sample(), sampleLeads()
	f := []int64{9, 9, 0, 0, 0, 0, 0, 9, 0, 0, 0, 0, 0}
	tryNext(t, n, f, leads, 1, 8, 10, 6)
	tryNext(t, n, f, leads, 4, 8, 10, 6)
	tryNext(t, n, f, leads, 5)
	f[3], f[4], f[5], f[6] = 5, 5, 4, 1
	tryNext(t, n, f, leads, 1, 8, 12, 6)
	tryNext(t, n, f, leads, 2)
	f[3], f[4], f[6] = 6, 6, 2
	tryNext(t, n, f, leads, 1, 8, 12, 24)
	f[4], f[6], f[12] = 7, 3, 1
	tryNext(t, n, f, leads, 1)
	tryNext(t, n, f, leads, most)
	back := network(2, api.Arc{From: 2, To: 1, Cap: api.MaxSum})
	tryNext(t, back, []int64{api.MaxSum}, []int{1}, api.MaxSum, 1)
	tryNext(t, back, []int64{api.MaxSum - 1}, []int{1}, api.MaxSum)
	tryNext(t, back, []int64{api.MaxSum}, []int{1}, most)
	crossing, g := crossed()
	tryNext(t, crossing, g, []int{0, 3, 6, 8}, 5, 0, 3, 6, 8)
	tryNext(t, crossing, g, []int{0, 3, 6, 8}, 6)
	tryNext(t, crossing, make([]int64, 7), []int{0, 3, 6, 8}, 1)
}

// layers have two nodes each, and all arcs from each to the next one: more walks than could ever be gone through one by one. The last layer has no arc, so that none of them comes to the sink.
func layers(count int) api.Net {
	n := network(2*count+2, api.Arc{From: 1, To: 2, Cap: 1}, api.Arc{From: 1, To: 3, Cap: 1})
	for v := 2; v < 2*count; v += 2 {
		for _, from := range []int{v, v + 1} {
			n.Arcs = append(n.Arcs, api.Arc{From: from, To: v + 2, Cap: 1}, api.Arc{From: from, To: v + 3, Cap: 1})
		}
	}
	return n
}

func TestB1NoDeadEndIsTriedTwice(t *testing.T) {
	n := layers(249)
	var leads []int
	for i := range n.Arcs {
		leads = append(leads, 2*i)
	}
	tryNext(t, n, make([]int64, len(n.Arcs)), leads, 1)
	tryBlock(t, n, make([]int64, len(n.Arcs)), 1, make([]int64, len(n.Arcs)))
	n.Arcs = append(n.Arcs, api.Arc{From: 499, To: 500, Cap: 1})
	walk, ok := Next(n, make([]int64, len(n.Arcs)), append(leads, 2*len(leads)), 1)
	if !ok || len(walk) != 250 || walk[0] != 0 || walk[1] != 4 || !slices.Equal(walk[248:], []int{2*len(leads) - 6, 2 * len(leads)}) {
		t.Error(walk, ok)
	}
}

// Of what is not right, nothing is promised but that the call ends, and does not panic.
func TestB1WrongInputs(t *testing.T) {
	arc := api.Arc{From: 1, To: 2, Cap: 5}
	numbers := []int{lowest, -3, -2, -1, 0, 1, 2, 3, 4, 5, 25, 26, 27, 1 << 32, most}
	for _, leads := range [][]int{nil, {0}, {-1}, {most}, {lowest}, numbers, slices.Repeat(numbers, 100)} {
		for _, least := range []int64{lowest, -1, 0, 1, most} {
			for _, n := range []api.Net{{}, network(-1), network(1), network(501, arc), network(lowest, arc), network(most, arc),
				{Nodes: 2, Source: 0, Sink: 2, Arcs: []api.Arc{arc}}, {Nodes: 2, Source: most, Sink: lowest, Arcs: []api.Arc{arc}},
				network(2, api.Arc{From: most, To: lowest, Cap: -1}), network(2), network(2, arc), sample(),
			} {
				for _, f := range [][]int64{nil, {-1}, {most, lowest}, make([]int64, len(n.Arcs)), make([]int64, 14)} {
					if walk, ok := Next(n, f, leads, least); ok != (len(walk) > 0) {
						t.Errorf("Next(%v, %d, %d, %d): %d, %v", n, f, leads, least, walk, ok)
					}
				}
			}
		}
	}
}

func TestB1TracksThatGoRound(t *testing.T) {
	n := network(4,
		api.Arc{From: 1, To: 2, Cap: 5},
		api.Arc{From: 2, To: 3, Cap: 5},
		api.Arc{From: 3, To: 2, Cap: 5},
		api.Arc{From: 3, To: 1, Cap: 5},
		api.Arc{From: 2, To: 2, Cap: 5},
		api.Arc{From: 3, To: 4, Cap: 5},
	)
	all := []int{0, 1, 2, 3, 4, 5, 6, 7, 8, 9, 10, 11}
	for _, amount := range []int64{0, 1} {
		f := []int64{0, amount, amount, 0, amount, 0}
		for _, leads := range [][]int{all, all[:10], slices.Repeat(all, 3), {8, 0}, {9, 9, 8, 4, 0, 2}} {
			for _, least := range []int64{lowest, 0, 1} {
				if walk, ok := Next(n, f, leads, least); ok != (len(walk) > 0) {
					t.Errorf("Next(%v, %d, %d, %d): %d, %v", n, f, leads, least, walk, ok)
				}
			}
		}
	}
}

func TestB2Example(t *testing.T) {
	n := network(2, api.Arc{From: 1, To: 2, Cap: 5}, api.Arc{From: 1, To: 2, Cap: 3})
	tryBlock(t, n, []int64{0, 0}, 1, []int64{5, 3}, Walk{[]int{0}, 5}, Walk{[]int{2}, 3})
	tryBlock(t, n, []int64{0, 0}, 4, []int64{5, 0}, Walk{[]int{0}, 5})
	tryBlock(t, n, []int64{4, 0}, 2, []int64{4, 3}, Walk{[]int{2}, 3})
	tryBlock(t, n, []int64{5, 3}, 1, []int64{5, 3})
	tryBlock(t, n, []int64{1, 2}, 5, []int64{1, 2})
}

func TestB2WalksHangOnLeast(t *testing.T) {
	n, f := sample(), make([]int64, 13)
	tryBlock(t, n, f, 1, []int64{9, 9, 0, 6, 7, 4, 3, 9, 0, 0, 0, 0, 1},
		Walk{[]int{0, 2, 14}, 9}, Walk{[]int{8, 10, 6}, 4}, Walk{[]int{8, 12, 6}, 2}, Walk{[]int{8, 12, 24}, 1})
	tryBlock(t, n, f, 2, []int64{9, 9, 0, 6, 6, 4, 2, 9, 0, 0, 0, 0, 0},
		Walk{[]int{0, 2, 14}, 9}, Walk{[]int{8, 10, 6}, 4}, Walk{[]int{8, 12, 6}, 2})
	tryBlock(t, n, f, 3, []int64{9, 9, 0, 4, 4, 4, 0, 9, 0, 0, 0, 0, 0},
		Walk{[]int{0, 2, 14}, 9}, Walk{[]int{8, 10, 6}, 4})
	tryBlock(t, n, f, 5, []int64{9, 9, 0, 0, 0, 0, 0, 9, 0, 0, 0, 0, 0}, Walk{[]int{0, 2, 14}, 9})
	for _, least := range []int64{10, 1 << 32, 1<<32 + 1, api.MaxSum, most} {
		tryBlock(t, n, f, least, f)
	}
}

// A walk over a track back takes off what flows on its arc.
func TestB2WalksOverTracksBack(t *testing.T) {
	n, f := crossed()
	tryBlock(t, n, f, 1, []int64{5, 0, 5, 5, 5, 5, 5}, Walk{[]int{0, 3, 6, 8}, 5})
	tryBlock(t, n, f, 5, []int64{5, 0, 5, 5, 5, 5, 5}, Walk{[]int{0, 3, 6, 8}, 5})
	tryBlock(t, n, f, 6, f)
	n.Arcs[3].Cap = 2
	tryBlock(t, n, f, 1, []int64{2, 3, 5, 2, 2, 5, 5}, Walk{[]int{0, 3, 6, 8}, 2})
	both := network(2, api.Arc{From: 2, To: 1, Cap: 4}, api.Arc{From: 1, To: 2, Cap: 4})
	tryBlock(t, both, []int64{3, 1}, 1, []int64{0, 4}, Walk{[]int{1}, 3}, Walk{[]int{2}, 3})
}

// Behind the first walk there is one by a longer way, and one that the first walk opened: they lead on only in a later phase.
func TestB2LeadsAsTheyWereAtFirst(t *testing.T) {
	n := network(4,
		api.Arc{From: 1, To: 2, Cap: 3},
		api.Arc{From: 2, To: 4, Cap: 1},
		api.Arc{From: 2, To: 3, Cap: 2},
		api.Arc{From: 3, To: 4, Cap: 2},
	)
	tryBlock(t, n, make([]int64, 4), 1, []int64{1, 1, 0, 0}, Walk{[]int{0, 2}, 1})
	tryBlock(t, n, []int64{1, 1, 0, 0}, 1, []int64{3, 1, 2, 2}, Walk{[]int{0, 4, 6}, 2})
	tryBlock(t, n, make([]int64, 4), 2, []int64{2, 0, 2, 2}, Walk{[]int{0, 4, 6}, 2})
	opened := network(4,
		api.Arc{From: 1, To: 2, Cap: 1},
		api.Arc{From: 2, To: 3, Cap: 1},
		api.Arc{From: 3, To: 4, Cap: 1},
		api.Arc{From: 1, To: 3, Cap: 1},
		api.Arc{From: 2, To: 4, Cap: 1},
	)
	tryBlock(t, opened, []int64{1, 1, 1, 0, 0}, 1, []int64{1, 0, 1, 1, 1}, Walk{[]int{6, 3, 8}, 1})
	tryBlock(t, opened, make([]int64, 5), 1, []int64{1, 0, 1, 1, 1}, Walk{[]int{0, 8}, 1}, Walk{[]int{6, 4}, 1})
}

func TestB2FewestAndGreatest(t *testing.T) {
	tryBlock(t, network(2), nil, 1, nil)
	tryBlock(t, network(2), []int64{}, most, nil)
	tryBlock(t, network(500), nil, 1, nil)
	great := network(2, api.Arc{From: 1, To: 2, Cap: api.MaxSum})
	tryBlock(t, great, []int64{0}, 1, []int64{api.MaxSum}, Walk{[]int{0}, api.MaxSum})
	tryBlock(t, great, []int64{0}, api.MaxSum, []int64{api.MaxSum}, Walk{[]int{0}, api.MaxSum})
	tryBlock(t, great, []int64{1}, api.MaxSum, []int64{1})
	tryBlock(t, great, []int64{0}, most, []int64{0})
	back := network(2, api.Arc{From: 2, To: 1, Cap: api.MaxSum})
	tryBlock(t, back, []int64{api.MaxSum}, 1, []int64{0}, Walk{[]int{1}, api.MaxSum})
	tryBlock(t, back, []int64{api.MaxSum}, most, []int64{api.MaxSum})
}

func TestB2AsManyArcsAsThereMayBe(t *testing.T) {
	n, f := network(2), make([]int64, 2000)
	var walks []Walk
	for i := range 2000 {
		n.Arcs = append(n.Arcs, api.Arc{From: 1, To: 2, Cap: int64(2000 - i)})
		walks = append(walks, Walk{[]int{2 * i}, int64(2000 - i)})
	}
	for _, least := range []int{1, 2, 1000, 1999, 2000, 2001} {
		want, count := make([]int64, 2000), 2001-least
		for i := range count {
			want[i] = n.Arcs[i].Cap
		}
		tryBlock(t, n, f, int64(least), want, walks[:count]...)
	}
}

// ring goes round by all nodes that there may be; the same amount flows on all of its arcs.
func ring(amount int64) (api.Net, []int64) {
	n := network(500)
	for v := 1; v <= 500; v++ {
		n.Arcs = append(n.Arcs, api.Arc{From: v, To: v%500 + 1, Cap: 2})
	}
	return n, slices.Repeat([]int64{amount}, 500)
}

func TestB2AsManyNodesAsThereMayBe(t *testing.T) {
	var forth []int
	for i := range 499 {
		forth = append(forth, 2*i)
	}
	filled := append(slices.Repeat([]int64{2}, 499), 0)
	n, f := ring(0)
	tryBlock(t, n, f, 1, filled, Walk{forth, 2})
	tryBlock(t, n, f, 2, filled, Walk{forth, 2})
	tryBlock(t, n, f, 3, f)
	n, f = ring(1)
	tryBlock(t, n, f, 1, append(slices.Repeat([]int64{1}, 499), 0), Walk{[]int{999}, 1})
	tryBlock(t, n, f, 2, f)
}

func TestB2WrongNetworks(t *testing.T) {
	arc := api.Arc{From: 1, To: 2, Cap: 5}
	for _, c := range []struct {
		n api.Net
		e api.Errno
	}{
		{api.Net{}, api.ErrRange},
		{network(1), api.ErrRange},
		{network(501, arc), api.ErrRange},
		{network(lowest, arc), api.ErrRange},
		{network(most, arc), api.ErrRange},
		{api.Net{Nodes: 2, Source: 0, Sink: 2}, api.ErrNode},
		{api.Net{Nodes: 2, Source: 1, Sink: 3}, api.ErrNode},
		{api.Net{Nodes: 2, Source: lowest, Sink: most}, api.ErrNode},
		{api.Net{Nodes: 2, Source: 2, Sink: 2}, api.ErrSame},
		{network(2, slices.Repeat([]api.Arc{arc}, 2001)...), api.ErrCount},
		{network(2, arc, api.Arc{From: 3, To: 1}), api.ErrNode},
		{network(2, arc, api.Arc{From: 1, To: -1}), api.ErrNode},
		{network(2, arc, api.Arc{From: 1, To: 2, Cap: -1}), api.ErrRange},
		{network(2, arc, api.Arc{From: 1, To: 2, Cap: most}), api.ErrSum},
	} {
		for _, f := range [][]int64{nil, {-1}, make([]int64, len(c.n.Arcs)), slices.Repeat([]int64{1}, len(c.n.Arcs)), {most, lowest}} {
			for _, least := range []int64{lowest, 0, 1, most} {
				tryFault(t, c.n, f, least, c.e)
			}
		}
	}
}

func TestB2NoFlows(t *testing.T) {
	n := sample()
	for _, least := range []int64{lowest, -1, 0, 1, 2, most} {
		for _, f := range [][]int64{nil, {}, {-1}, make([]int64, 12), make([]int64, 14), make([]int64, 26)} {
			tryFault(t, n, f, least, api.ErrCount)
		}
		tryFault(t, network(2), []int64{0}, least, api.ErrCount)
		for i, arc := range n.Arcs {
			for _, amount := range []int64{lowest, -1, arc.Cap + 1, most} {
				f := make([]int64, 13)
				f[i] = amount
				tryFault(t, n, f, least, api.ErrRange)
			}
		}
		for _, i := range []int{0, 1, 2, 3, 4, 5, 6, 7, 8, 10, 12} {
			f := make([]int64, 13)
			f[i] = 1
			tryFault(t, n, f, least, api.ErrState)
		}
	}
}

func TestB2Least(t *testing.T) {
	for _, least := range []int64{lowest, lowest + 1, -1 << 32, -1, 0} {
		tryFault(t, sample(), make([]int64, 13), least, api.ErrRange)
		tryFault(t, network(2), nil, least, api.ErrRange)
	}
}

// P3 and P4: nothing is written into, lists are new and share nothing, and what lies behind a list's length is neither read nor written.
func TestB1B2NothingIsWrittenInto(t *testing.T) {
	arcs, f, leads := append(sample().Arcs, api.Arc{From: 2, To: 5, Cap: 9}), append(make([]int64, 13), 7), append(sampleLeads(), 26)
	keptArcs, keptF, keptLeads := slices.Clone(arcs), slices.Clone(f), slices.Clone(leads)
	n := sample()
	n.Arcs = arcs[:13]
	third := Walk{[]int{8, 12, 6}, 2}
	for range 3 {
		tryNext(t, n, f[:13], leads[:9], 1, 0, 2, 14)
		tryNext(t, n, f[:13], leads[:1], 1)
		tryFault(t, n, f[:13], 0, api.ErrRange)
		walk, _ := Next(n, f[:13], leads[:9], 1)
		still, _, _ := Block(n, f[:13], most)
		l, walks, _ := Block(n, f[:13], 1)
		for _, w := range walks[:2] {
			clear(w.Tracks)
			_ = append(w.Tracks[:3], 99, 99, 99, 99, 99)
		}
		if !sameWalks(walks[2:3], []Walk{third}) {
			t.Error(walks)
		}
		clear(walk)
		clear(l)
		still[0] = 5
		_, _, _ = append(walk, 5), append(l, 5), append(still, 5)
	}
	if !slices.Equal(arcs, keptArcs) || !slices.Equal(f, keptF) || !slices.Equal(leads, keptLeads) {
		t.Error(arcs, f, leads)
	}
}

// smallFlows are the flows of all networks of four nodes and three arcs, of all ends, with capacities of 0 to 2.
func smallFlows(yield func(api.Net, []int64) bool) {
	for code := range 16 * 16 * 16 {
		var arcs []api.Arc
		for i, ends := range []int{code % 16, code / 16 % 16, code / 256} {
			arcs = append(arcs, api.Arc{From: 1 + ends/4, To: 1 + ends%4, Cap: int64(ends+i) % 3})
		}
		for amounts := range int64(27) {
			f := []int64{amounts % 3, amounts / 3 % 3, amounts / 9}
			for _, n := range []api.Net{{Nodes: 4, Source: 1, Sink: 4, Arcs: arcs}, {Nodes: 4, Source: 3, Sink: 2, Arcs: arcs}} {
				if flow.Check(n, f) == api.OK && !yield(n, f) {
					return
				}
			}
		}
	}
}

// ruled networks have arcs whose ends and capacities go by a rule that hangs on a number. Each fourth arc goes from the source, and each fourth to the sink, so that there are many walks.
func ruled(number int) api.Net {
	nodes := 6 + number%5
	n := network(nodes)
	x := uint32(number + 1)
	for i := range 4*nodes + number%7 {
		x = x*1664525 + 1013904223
		arc := api.Arc{From: 1 + int(x>>8)%nodes, To: 1 + int(x>>16)%nodes, Cap: int64(x>>24) % 10}
		switch i % 4 {
		case 0:
			arc.From = 1
		case 2:
			arc.To = nodes
		}
		n.Arcs = append(n.Arcs, arc)
	}
	return n
}

// ruledFlows lead one blocking flow behind the other through each network, by the words, until the sink is not come to.
func ruledFlows(yield func(api.Net, []int64) bool) {
	for number := range 150 {
		n := ruled(number)
		f, more := make([]int64, len(n.Arcs)), true
		for more {
			if !yield(n, f) {
				return
			}
			var walks []Walk
			f, walks = blockOf(n, f, int64(1+number%3))
			more = len(walks) > 0
		}
	}
}

// walksOf are all walks from the source to the sink over these tracks, of a room of least or more, that have so many tracks at most.
func walksOf(n api.Net, f []int64, tracks []int, least int64, longest int) [][]int {
	rooms, _ := residual.Room(n, f)
	var all [][]int
	var goOn func(walk []int, at int)
	goOn = func(walk []int, at int) {
		if at == n.Sink {
			all = append(all, slices.Clone(walk))
		}
		if len(walk) == longest {
			return
		}
		for _, r := range tracks {
			if from, to := residual.Ends(n, r); from == at && rooms[r] >= least {
				goOn(append(walk, r), to)
			}
		}
	}
	goOn(nil, n.Source)
	return all
}

// firstOf goes by the words of B1: of all walks, the one that is less where they are first unlike.
func firstOf(n api.Net, f []int64, leads []int, least int64) []int {
	all := walksOf(n, f, leads, least, n.Nodes)
	if len(all) == 0 {
		return nil
	}
	return slices.MinFunc(all, slices.Compare)
}

// blockOf goes by the words of B2.
func blockOf(n api.Net, f []int64, least int64) ([]int64, []Walk) {
	leads, _ := level.Leads(n, f, least)
	l, walks := slices.Clone(f), []Walk(nil)
	for walk := firstOf(n, l, leads, least); walk != nil; walk = firstOf(n, l, leads, least) {
		rooms, _ := residual.Room(n, l)
		var amount int64 = most
		for _, r := range walk {
			amount = min(amount, rooms[r])
		}
		l, _ = residual.Push(n, l, walk, amount)
		walks = append(walks, Walk{walk, amount})
	}
	return l, walks
}

// someOf leaves tracks out by a rule.
func someOf(leads []int, rule int) []int {
	var l []int
	for i, r := range leads {
		if (i+1)*(rule+2)%3 != 0 {
			l = append(l, r)
		}
	}
	return l
}

func tryByTheWords(t *testing.T, n api.Net, f []int64, least int64) {
	t.Helper()
	leads, _ := level.Leads(n, f, least)
	want, walks := blockOf(n, f, least)
	for _, tracks := range [][]int{leads, someOf(leads, 0), someOf(leads, 2), nil} {
		for _, amounts := range [][]int64{f, want} {
			for wide := least; wide <= least+3; wide++ {
				tryNext(t, n, amounts, tracks, wide, firstOf(n, amounts, tracks, wide)...)
			}
		}
	}
	tryBlock(t, n, f, least, want, walks...)
}

func TestB1B2ByTheWords(t *testing.T) {
	for n, f := range smallFlows {
		for least := int64(1); least <= 3; least++ {
			tryByTheWords(t, n, f, least)
		}
	}
}

func TestB1B2ByTheWordsOfGreaterNetworks(t *testing.T) {
	count, many := 0, 0
	for n, f := range ruledFlows {
		for least := int64(1); least <= 4; least++ {
			tryByTheWords(t, n, f, least)
		}
		if _, walks, _ := Block(n, f, 1); len(walks) > 3 {
			many++
		}
		count++
	}
	if count < 300 || many < 30 {
		t.Error(count, many)
	}
}

// wide networks have rows of nodes with arcs to the next row, to their own, to the one before and to the one behind the next, by a rule, and as many arcs as there may be.
func wide() api.Net {
	n := network(402)
	for i := range 10 {
		n.Arcs = append(n.Arcs, api.Arc{From: 1, To: 2 + i, Cap: 900}, api.Arc{From: 392 + i, To: 402, Cap: 900})
	}
	for i := range 1980 {
		row, ahead := i%39, []int{1, 1, 1, 0, 1, -1, 1, 2}[i%8]
		to := min(max(row+ahead, 0), 39)
		n.Arcs = append(n.Arcs, api.Arc{From: 2 + 10*row + i*7/39%10, To: 2 + 10*to + (i*i+i/3)%10, Cap: int64(1 + i*i%97)})
	}
	return n
}

// Block is Next of the same leads again and again, each time from the beginning.
func TestB2IsNextAgainAndAgain(t *testing.T) {
	n := wide()
	f, phases, count := make([]int64, 2000), 0, 0
	for deep, _ := level.Deep(n, f, 1); deep >= 0; deep, _ = level.Deep(n, f, 1) {
		for _, least := range []int64{20, 5, 1} {
			leads, _ := level.Leads(n, f, least)
			l, walks := slices.Clone(f), []Walk(nil)
			for walk, ok := Next(n, l, leads, least); ok; walk, ok = Next(n, l, leads, least) {
				rooms, _ := residual.Room(n, l)
				narrow := slices.MinFunc(walk, func(r, s int) int { return int(rooms[r] - rooms[s]) })
				walks = append(walks, Walk{walk, rooms[narrow]})
				l, _ = residual.Push(n, l, walk, rooms[narrow])
			}
			tryBlock(t, n, f, least, l, walks...)
			count += len(walks)
		}
		f, _, _ = Block(n, f, 1)
		phases++
	}
	if phases < 3 || count < 30 {
		t.Error(phases, count)
	}
}

// tryFollows looks at the walks, at the flow that they make, and at the level of the sink behind it.
func tryFollows(t *testing.T, n api.Net, f []int64, least int64) int {
	t.Helper()
	deep, _ := level.Deep(n, f, least)
	l, walks, _ := Block(n, f, least)
	behind, e := level.Deep(n, l, least)
	if e != api.OK || behind >= 0 && behind <= deep {
		t.Errorf("%v, %d, %d: the sink's level is %d, and behind %d %d, %d", n, f, least, deep, l, behind, e)
	}
	if len(walks) > 2*len(n.Arcs) || len(walks) == 0 != (deep < 0) {
		t.Errorf("%v, %d, %d: %d walks to level %d", n, f, least, len(walks), deep)
	}
	worth, _ := flow.Value(n, f)
	for _, w := range walks {
		worth += w.Amount
		if len(w.Tracks) != deep || w.Amount < least {
			t.Errorf("%v, %d, %d: walk %v to level %d", n, f, least, w, deep)
		}
	}
	if value, e := flow.Value(n, l); value != worth || e != api.OK {
		t.Errorf("%v, %d, %d: %d is worth %d, %d; the walks say %d", n, f, least, l, value, e, worth)
	}
	return behind
}

func TestB3WhatFollows(t *testing.T) {
	for n, f := range smallFlows {
		for least := int64(1); least <= 2; least++ {
			tryFollows(t, n, f, least)
		}
	}
	deeper := 0
	for n, f := range ruledFlows {
		for least := int64(1); least <= 9; least++ {
			if tryFollows(t, n, f, least) > 0 {
				deeper++
			}
		}
	}
	if deeper < 30 {
		t.Error(deeper)
	}
	for amount := range int64(3) {
		n, f := ring(amount)
		tryFollows(t, n, f, 1)
		tryFollows(t, n, f, 2)
	}
	for least := int64(1); least <= 64; least *= 2 {
		n, f := wide(), make([]int64, 2000)
		for tryFollows(t, n, f, least) > 0 {
			f, _, _ = Block(n, f, least)
		}
	}
}
