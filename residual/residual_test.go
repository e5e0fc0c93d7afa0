package residual

import (
	"math"
	"slices"
	"testing"

	"raceway/api"
	"raceway/flow"
	"raceway/net"
)

const (
	most  = math.MaxInt64
	least = math.MinInt64
)

// network has its source at 1 and its sink at its last node.
func network(nodes int, arcs ...api.Arc) api.Net {
	return api.Net{Nodes: nodes, Source: 1, Sink: nodes, Arcs: arcs}
}

// sample has two ways from source to sink, a loop, arcs beside one another, one from sink to source, one without a capacity, and a node without arcs.
func sample() api.Net {
	return api.Net{Nodes: 5, Source: 1, Sink: 4, Arcs: []api.Arc{
		{From: 1, To: 2, Cap: 5},
		{From: 2, To: 4, Cap: 3},
		{From: 2, To: 3, Cap: 4},
		{From: 3, To: 4, Cap: 2},
		{From: 3, To: 4, Cap: 2},
		{From: 3, To: 3, Cap: 9},
		{From: 4, To: 1, Cap: 2},
		{From: 1, To: 4, Cap: 0},
	}}
}

// sampleFlow is worth 3; only the arc without a capacity has none of it.
func sampleFlow() []int64 { return []int64{4, 2, 2, 1, 1, 3, 1, 0} }

// crossed has one way only on which more can flow: 1 to 3, back to 2, and to 4.
func crossed() (api.Net, []int64) {
	return network(4,
		api.Arc{From: 1, To: 2, Cap: 5},
		api.Arc{From: 2, To: 3, Cap: 5},
		api.Arc{From: 3, To: 4, Cap: 5},
		api.Arc{From: 1, To: 3, Cap: 7},
		api.Arc{From: 2, To: 4, Cap: 3},
	), []int64{5, 5, 5, 0, 0}
}

func tryRoom(t *testing.T, n api.Net, f, want []int64, e api.Errno) {
	t.Helper()
	if l, d := Room(n, f); !slices.Equal(l, want) || d != e {
		t.Errorf("Room(%v, %d): %d, %d; want %d, %d", n, f, l, d, want, e)
	}
}

func tryEnds(t *testing.T, n api.Net, r, from, to int) {
	t.Helper()
	if a, b := Ends(n, r); a != from || b != to {
		t.Errorf("Ends(%v, %d): %d, %d; want %d, %d", n, r, a, b, from, to)
	}
}

func tryFrom(t *testing.T, n api.Net, v int, want ...int) {
	t.Helper()
	if l := From(n, v); !slices.Equal(l, want) {
		t.Errorf("From(%v, %d): %d; want %d", n, v, l, want)
	}
}

type pushCase struct {
	walk   []int
	amount int64
	want   []int64
	e      api.Errno
}

func tryPush(t *testing.T, n api.Net, f []int64, cases ...pushCase) {
	t.Helper()
	for _, c := range cases {
		if l, e := Push(n, f, c.walk, c.amount); !slices.Equal(l, c.want) || e != c.e {
			t.Errorf("Push(%v, %d, %d, %d): %d, %d; want %d, %d", n, f, c.walk, c.amount, l, e, c.want, c.e)
		}
	}
}

// tryReach takes the nodes that are reached; of each other number the answer must be false.
func tryReach(t *testing.T, n api.Net, f []int64, least int64, want ...int) {
	t.Helper()
	met := make([]bool, n.Nodes+1)
	for _, v := range want {
		met[v] = true
	}
	if l, e := Reach(n, f, least); !slices.Equal(l, met) || e != api.OK {
		t.Errorf("Reach(%v, %d, %d): %v, %d; want %v", n, f, least, l, e, met)
	}
}

func tryNoReach(t *testing.T, n api.Net, f []int64, least int64, e api.Errno) {
	t.Helper()
	if l, d := Reach(n, f, least); len(l) != 0 || d != e {
		t.Errorf("Reach(%v, %d, %d): %v, %d; want %d", n, f, least, l, d, e)
	}
}

func TestR1Room(t *testing.T) {
	tryRoom(t, network(2, api.Arc{From: 1, To: 2, Cap: 5}), []int64{3}, []int64{2, 3}, api.OK)
	tryRoom(t, sample(), sampleFlow(), []int64{1, 4, 1, 2, 2, 2, 1, 1, 1, 1, 6, 3, 1, 1, 0, 0}, api.OK)
	tryRoom(t, sample(), make([]int64, 8), []int64{5, 0, 3, 0, 4, 0, 2, 0, 2, 0, 9, 0, 2, 0, 0, 0}, api.OK)
	for _, none := range [][]int64{nil, {}} {
		tryRoom(t, network(2), none, nil, api.OK)
		tryRoom(t, network(500), none, nil, api.OK)
	}
	great := network(2, api.Arc{From: 1, To: 2, Cap: api.MaxSum})
	for _, amount := range []int64{0, 1, 1 << 32, api.MaxSum - 1, api.MaxSum} {
		tryRoom(t, great, []int64{amount}, []int64{api.MaxSum - amount, amount}, api.OK)
	}
}

func TestR1RoomOfAsManyArcsAsThereMayBe(t *testing.T) {
	n, f := network(2), []int64(nil)
	var want []int64
	for i := range int64(2000) {
		n.Arcs = append(n.Arcs, api.Arc{From: 1, To: 2, Cap: 3 * i})
		f = append(f, i)
		want = append(want, 2*i, i)
	}
	tryRoom(t, n, f, want, api.OK)
}

func TestR1Ends(t *testing.T) {
	n := sample()
	for r, want := range [][2]int{{1, 2}, {2, 1}, {2, 4}, {4, 2}, {2, 3}, {3, 2}, {3, 4}, {4, 3}, {3, 4}, {4, 3}, {3, 3}, {3, 3}, {4, 1}, {1, 4}, {1, 4}, {4, 1}} {
		tryEnds(t, n, r, want[0], want[1])
	}
	for _, r := range []int{least, least + 1, -1 << 32, -16, -3, -2, -1, 16, 17, 18, 1 << 32, 1<<32 + 1, most - 1, most} {
		tryEnds(t, n, r, 0, 0)
	}
	for _, r := range []int{least, -1, 0, 1, 2, most} {
		tryEnds(t, network(2), r, 0, 0)
		tryEnds(t, api.Net{}, r, 0, 0)
	}
	many := network(2, slices.Repeat([]api.Arc{{From: 1, To: 2}}, 2000)...)
	tryEnds(t, many, 3998, 1, 2)
	tryEnds(t, many, 3999, 2, 1)
	tryEnds(t, many, 4000, 0, 0)
}

func TestR1From(t *testing.T) {
	n := sample()
	tryFrom(t, n, 1, 0, 13, 14)
	tryFrom(t, n, 2, 1, 2, 4)
	tryFrom(t, n, 3, 5, 6, 8, 10, 11)
	tryFrom(t, n, 4, 3, 7, 9, 12, 15)
	for _, v := range []int{least, -4, -1, 0, 5, 6, 500, 1 << 32, 1<<32 + 1, most} {
		tryFrom(t, n, v)
		tryFrom(t, network(2), v)
		tryFrom(t, api.Net{}, v)
	}
}

// Ends and From tell no error, so they go by the arcs alone, of a wrong network, too.
func TestR1WrongNetworks(t *testing.T) {
	n := api.Net{Nodes: -5, Source: 7, Sink: 7, Arcs: []api.Arc{{From: 9, To: -3, Cap: -1}, {From: 0, To: most, Cap: most}, {From: 0, To: 0}}}
	for r, want := range [][2]int{{9, -3}, {-3, 9}, {0, most}, {most, 0}, {0, 0}, {0, 0}, {0, 0}} {
		tryEnds(t, n, r, want[0], want[1])
	}
	tryFrom(t, n, 9, 0)
	tryFrom(t, n, -3, 1)
	tryFrom(t, n, 0, 2, 4, 5)
	tryFrom(t, n, most, 3)
	tryFrom(t, n, 7)
	many := network(2, slices.Repeat([]api.Arc{{From: 1, To: 2}}, 3000)...)
	tryEnds(t, many, 5999, 2, 1)
	tryEnds(t, many, 6000, 0, 0)
	if l := From(many, 2); len(l) != 3000 || l[2999] != 5999 {
		t.Error(len(l))
	}
}

func TestR2Push(t *testing.T) {
	tryPush(t, network(2, api.Arc{From: 1, To: 2, Cap: 5}), []int64{3},
		pushCase{[]int{0}, 1, []int64{4}, api.OK},
		pushCase{[]int{0}, 2, []int64{5}, api.OK},
		pushCase{[]int{0}, 3, nil, api.ErrState},
	)
	tryPush(t, sample(), sampleFlow(),
		pushCase{[]int{0, 2}, 1, []int64{5, 3, 2, 1, 1, 3, 1, 0}, api.OK},
		pushCase{[]int{0, 2}, 2, nil, api.ErrState},
		pushCase{[]int{0, 4, 6}, 1, []int64{5, 2, 3, 2, 1, 3, 1, 0}, api.OK},
		pushCase{[]int{0, 4, 8}, 1, []int64{5, 2, 3, 1, 2, 3, 1, 0}, api.OK},
		pushCase{[]int{13}, 1, []int64{4, 2, 2, 1, 1, 3, 0, 0}, api.OK},
		pushCase{[]int{13}, 2, nil, api.ErrState},
		pushCase{[]int{14}, 1, nil, api.ErrState},
	)
	n, f := crossed()
	tryPush(t, n, f,
		pushCase{[]int{6, 3, 8}, 1, []int64{5, 4, 5, 1, 1}, api.OK},
		pushCase{[]int{6, 3, 8}, 3, []int64{5, 2, 5, 3, 3}, api.OK},
		pushCase{[]int{6, 3, 8}, 4, nil, api.ErrState},
		pushCase{[]int{6, 4}, 1, nil, api.ErrState},
		pushCase{[]int{0, 8}, 1, nil, api.ErrState},
	)
}

// A walk may meet a track, an arc both ways, a loop, the source and the sink again and again: what was walked before is in the amounts by then.
func TestR2PushOverTheSameArcs(t *testing.T) {
	tryPush(t, sample(), sampleFlow(),
		pushCase{[]int{0, 1, 0, 2}, 1, []int64{5, 3, 2, 1, 1, 3, 1, 0}, api.OK},
		pushCase{[]int{0, 2, 3, 2}, 1, []int64{5, 3, 2, 1, 1, 3, 1, 0}, api.OK},
		pushCase{[]int{13, 12, 13}, 1, []int64{4, 2, 2, 1, 1, 3, 0, 0}, api.OK},
		pushCase{[]int{13, 15, 13}, 1, nil, api.ErrState},
		pushCase{[]int{0, 2, 12, 13}, 1, []int64{5, 3, 2, 1, 1, 3, 1, 0}, api.OK},
		pushCase{[]int{0, 2, 12, 0, 2}, 1, nil, api.ErrState},
		pushCase{[]int{13, 3, 1, 0, 2}, 1, []int64{4, 2, 2, 1, 1, 3, 0, 0}, api.OK},
		pushCase{[]int{13, 3, 4, 6}, 1, []int64{4, 1, 3, 2, 1, 3, 0, 0}, api.OK},
	)
	loop := network(3, api.Arc{From: 1, To: 2, Cap: 9}, api.Arc{From: 2, To: 2, Cap: 5}, api.Arc{From: 2, To: 3, Cap: 9})
	tryPush(t, loop, []int64{0, 1, 0},
		pushCase{[]int{0, 2, 4}, 4, []int64{4, 5, 4}, api.OK},
		pushCase{[]int{0, 2, 4}, 5, nil, api.ErrState},
		pushCase{[]int{0, 3, 4}, 1, []int64{1, 0, 1}, api.OK},
		pushCase{[]int{0, 3, 4}, 2, nil, api.ErrState},
		pushCase{[]int{0, 2, 2, 4}, 2, []int64{2, 5, 2}, api.OK},
		pushCase{[]int{0, 2, 2, 4}, 3, nil, api.ErrState},
		pushCase{[]int{0, 2, 3, 4}, 4, []int64{4, 1, 4}, api.OK},
		pushCase{[]int{0, 3, 2, 4}, 1, []int64{1, 1, 1}, api.OK},
		pushCase{[]int{0, 3, 2, 4}, 4, nil, api.ErrState},
		pushCase{[]int{0, 2, 3, 2, 4}, 4, []int64{4, 5, 4}, api.OK},
		pushCase{[]int{0, 2, 3, 3, 4}, 2, nil, api.ErrState},
		pushCase{[]int{0, 2, 3, 3, 4}, 1, []int64{1, 0, 1}, api.OK},
	)
}

func TestR2NoWalks(t *testing.T) {
	for _, amount := range []int64{1, 2, most, 0, -1, least} {
		for _, walk := range [][]int{
			nil, {}, // no tracks
			{-1}, {-2}, {-16}, {16}, {17}, {least}, {most}, {0, 2, 16}, {0, 2, -1}, {16, 0, 2}, {-1, 0, 2}, {0, -1, 2}, {0, 16, 2}, {0, 2, 16, 16}, // tracks that there are not
			{0, 6}, {0, 0, 2}, {0, 2, 2}, {0, 4, 2}, {0, 1, 2}, {13, 13}, {0, 10, 2}, // no walk
			{2}, {12}, {1, 0, 2}, {6}, {15, 13}, {3, 2}, {10, 6}, // not from the source
			{0}, {0, 4}, {0, 1}, {13, 12}, {0, 2, 12}, {0, 2, 3}, {0, 4, 10}, // not to the sink
		} {
			tryPush(t, sample(), sampleFlow(), pushCase{walk, amount, nil, api.ErrArg})
			tryPush(t, sample(), make([]int64, 8), pushCase{walk, amount, nil, api.ErrArg})
		}
		tryPush(t, network(2), nil, pushCase{nil, amount, nil, api.ErrArg}, pushCase{[]int{0}, amount, nil, api.ErrArg})
	}
}

func TestR2Amounts(t *testing.T) {
	for _, amount := range []int64{least, least + 1, -1 << 32, -5, -1, 0} {
		for _, walk := range [][]int{{0, 2}, {13}, {14}, {0, 4, 10, 6}, {0, 1, 0, 2}} {
			tryPush(t, sample(), sampleFlow(), pushCase{walk, amount, nil, api.ErrRange})
		}
	}
	for _, amount := range []int64{2, 1 << 32, 1<<32 + 1, api.MaxSum, api.MaxSum + 1, most - 4, most} {
		for _, walk := range [][]int{{0, 2}, {13}, {14}, {0, 4, 11, 6}, {0, 1, 0, 2}} {
			tryPush(t, sample(), sampleFlow(), pushCase{walk, amount, nil, api.ErrState})
		}
	}
	great := network(2, api.Arc{From: 1, To: 2, Cap: api.MaxSum})
	tryPush(t, great, []int64{0},
		pushCase{[]int{0}, api.MaxSum, []int64{api.MaxSum}, api.OK},
		pushCase{[]int{0}, api.MaxSum + 1, nil, api.ErrState},
		pushCase{[]int{0}, most, nil, api.ErrState},
		pushCase{[]int{0, 1, 0}, api.MaxSum, []int64{api.MaxSum}, api.OK},
	)
	tryPush(t, great, []int64{1},
		pushCase{[]int{0}, api.MaxSum - 1, []int64{api.MaxSum}, api.OK},
		pushCase{[]int{0}, api.MaxSum, nil, api.ErrState},
		pushCase{[]int{0}, most, nil, api.ErrState},
	)
	tryPush(t, network(2, api.Arc{From: 2, To: 1, Cap: api.MaxSum}), []int64{api.MaxSum},
		pushCase{[]int{1}, api.MaxSum, []int64{0}, api.OK},
		pushCase{[]int{1}, most, nil, api.ErrState},
		pushCase{[]int{1, 0, 1}, api.MaxSum, []int64{0}, api.OK},
	)
}

func TestR2LongWalks(t *testing.T) {
	n := network(2, api.Arc{From: 1, To: 2, Cap: 5}, api.Arc{From: 2, To: 2, Cap: 1 << 20})
	there := append(slices.Repeat([]int{0, 1}, 1<<19), 0)
	tryPush(t, n, []int64{2, 0}, pushCase{there, 3, []int64{5, 0}, api.OK}, pushCase{there, 4, nil, api.ErrState}, pushCase{there[1:], 3, nil, api.ErrArg})
	round := append([]int{0}, slices.Repeat([]int{2}, 1<<20)...)
	tryPush(t, n, []int64{2, 0}, pushCase{round, 1, []int64{3, 1 << 20}, api.OK})
	tryPush(t, n, []int64{2, 1}, pushCase{round, 1, nil, api.ErrState}, pushCase{append(round, 3), 1, nil, api.ErrState})
	line, walk := network(500), []int(nil)
	for v := 1; v < 500; v++ {
		line.Arcs = append(line.Arcs, api.Arc{From: v, To: v + 1, Cap: 7})
		walk = append(walk, 2*v-2)
	}
	tryPush(t, line, make([]int64, 499), pushCase{walk, 7, slices.Repeat([]int64{7}, 499), api.OK}, pushCase{walk, 8, nil, api.ErrState})
}

func TestR3Reach(t *testing.T) {
	one := network(2, api.Arc{From: 1, To: 2, Cap: 5})
	tryReach(t, one, []int64{3}, 1, 1, 2)
	tryReach(t, one, []int64{3}, 2, 1, 2)
	tryReach(t, one, []int64{3}, 3, 1)
	tryReach(t, one, []int64{5}, 1, 1)
	tryReach(t, sample(), sampleFlow(), 1, 1, 2, 3, 4)
	tryReach(t, sample(), sampleFlow(), 2, 1)
	tryReach(t, sample(), []int64{5, 3, 2, 2, 0, 0, 0, 0}, 1, 1)
	none := make([]int64, 8)
	for k, want := range [][]int{{1, 2, 3, 4}, {1, 2, 3, 4}, {1, 2, 3, 4}, {1, 2, 3}, {1, 2}, {1}, {1}} {
		tryReach(t, sample(), none, int64(k+1), want...)
	}
	for _, k := range []int64{10, 1 << 32, 1<<32 + 1, api.MaxSum, most} {
		tryReach(t, sample(), none, k, 1)
		tryReach(t, network(2), nil, k, 1)
		tryReach(t, network(500), nil, k, 1)
	}
	great := network(2, api.Arc{From: 1, To: 2, Cap: api.MaxSum})
	tryReach(t, great, []int64{0}, api.MaxSum, 1, 2)
	tryReach(t, great, []int64{0}, api.MaxSum+1, 1)
	tryReach(t, great, []int64{1}, api.MaxSum, 1)
}

// What flows leaves room backwards, but no more than flows.
func TestR3ReachBack(t *testing.T) {
	n, f := crossed()
	for k, want := range [][]int{{1, 2, 3, 4}, {1, 2, 3, 4}, {1, 2, 3, 4}, {1, 2, 3}, {1, 2, 3}, {1, 3}, {1, 3}, {1}} {
		tryReach(t, n, f, int64(k+1), want...)
	}
	f[1], f[2], f[4] = 2, 2, 3
	for k, want := range [][]int{{1, 2, 3, 4}, {1, 2, 3, 4}, {1, 2, 3, 4}, {1, 3}, {1, 3}, {1, 3}, {1, 3}, {1}} {
		tryReach(t, n, f, int64(k+1), want...)
	}
	round := network(3, api.Arc{From: 3, To: 1, Cap: 4}, api.Arc{From: 2, To: 3, Cap: 4})
	tryReach(t, round, []int64{0, 0}, 1, 1)
	tryReach(t, round, []int64{2, 0}, 2, 1, 3)
	tryReach(t, round, []int64{2, 0}, 3, 1)
}

// A node may be met only on the way on from one that is met late.
func TestR3ReachOfAsManyNodesAsThereMayBe(t *testing.T) {
	for source := 1; source <= 500; source += 83 {
		up := api.Net{Nodes: 500, Source: source, Sink: 1 + source%500}
		down := up
		var after, before []int
		for v := 1; v < 500; v++ {
			up.Arcs = append(up.Arcs, api.Arc{From: v, To: v + 1, Cap: 1})
			down.Arcs = append([]api.Arc{{From: v + 1, To: v, Cap: 1}}, down.Arcs...)
		}
		for v := 1; v <= 500; v++ {
			if v >= source {
				after = append(after, v)
			}
			if v <= source {
				before = append(before, v)
			}
		}
		tryReach(t, up, make([]int64, 499), 1, after...)
		tryReach(t, down, make([]int64, 499), 1, before...)
	}
	star := network(500)
	for v := 500; v > 1; v-- {
		star.Arcs = append(star.Arcs, api.Arc{From: 1, To: v, Cap: int64(v)})
	}
	var all []int
	for v := 1; v <= 500; v++ {
		all = append(all, v)
	}
	tryReach(t, star, make([]int64, 499), 1, all...)
	tryReach(t, star, make([]int64, 499), 500, 1, 500)
	tryReach(t, star, make([]int64, 499), 251, append([]int{1}, all[250:]...)...)
}

func TestR3Least(t *testing.T) {
	for _, k := range []int64{least, least + 1, -1 << 32, -1, 0} {
		tryNoReach(t, sample(), sampleFlow(), k, api.ErrRange)
		tryNoReach(t, network(2), nil, k, api.ErrRange)
	}
}

// wrongNets have each of the faults that a network may have.
func wrongNets() []api.Net {
	arc := api.Arc{From: 1, To: 2, Cap: 5}
	return []api.Net{
		{},
		{Nodes: 501, Source: 1, Sink: 2, Arcs: []api.Arc{arc}},
		{Nodes: least, Source: most, Sink: least, Arcs: []api.Arc{arc}},
		{Nodes: most, Source: 1, Sink: 2, Arcs: []api.Arc{arc}},
		{Nodes: 2, Source: 0, Sink: 2, Arcs: []api.Arc{arc}},
		{Nodes: 2, Source: 1, Sink: 3, Arcs: []api.Arc{arc}},
		{Nodes: 2, Source: 2, Sink: 2, Arcs: []api.Arc{arc}},
		network(2, slices.Repeat([]api.Arc{arc}, 2001)...),
		network(2, arc, api.Arc{From: 3, To: 1}),
		network(2, arc, api.Arc{From: 1, To: -1}),
		network(2, arc, api.Arc{From: 1, To: 2, Cap: -1}),
		network(2, arc, api.Arc{From: 1, To: 2, Cap: api.MaxSum}),
		network(2, arc, api.Arc{From: 1, To: 2, Cap: most}),
	}
}

// tryFault asks the three calls that take a flow for its error, whatever else is right or wrong.
func tryFault(t *testing.T, n api.Net, f []int64, e api.Errno) {
	t.Helper()
	tryRoom(t, n, f, nil, e)
	for _, k := range []int64{least, 0, 1, most} {
		tryNoReach(t, n, f, k, e)
		for _, walk := range [][]int{nil, {0}, {0, 2}, {-1}, {most}} {
			tryPush(t, n, f, pushCase{walk, k, nil, e})
		}
	}
}

func TestR1R2R3WrongNetworks(t *testing.T) {
	for _, n := range wrongNets() {
		e := net.Check(n)
		if e == api.OK {
			t.Fatal(n)
		}
		for _, f := range [][]int64{nil, {0}, {-1}, {most, most}, make([]int64, len(n.Arcs)), slices.Repeat([]int64{1}, len(n.Arcs))} {
			tryFault(t, n, f, e)
		}
	}
}

func TestR1R2R3NoFlows(t *testing.T) {
	n := sample()
	for _, f := range [][]int64{nil, {}, {-1}, make([]int64, 7), make([]int64, 9), make([]int64, 16)} {
		tryFault(t, n, f, api.ErrCount)
	}
	tryFault(t, network(2), []int64{0}, api.ErrCount)
	for i, arc := range n.Arcs {
		for _, amount := range []int64{least, -1, arc.Cap + 1, most} {
			f := sampleFlow()
			f[i] = amount
			tryFault(t, n, f, api.ErrRange)
		}
	}
	for _, f := range [][]int64{{1, 0, 0, 0, 0, 0, 0, 0}, {4, 2, 2, 1, 0, 3, 1, 0}, {4, 2, 1, 1, 1, 3, 1, 0}} {
		tryFault(t, n, f, api.ErrState)
	}
}

// P3 and P4: nothing is written into, lists are new, and what lies behind a list's length is neither read nor written.
func TestR1R2R3NothingIsWrittenInto(t *testing.T) {
	arcs := append(sample().Arcs, api.Arc{From: 1, To: 5, Cap: 9})
	f, walk := append(sampleFlow(), 7), []int{0, 2, 12, 16}
	keptArcs, keptF, keptWalk := slices.Clone(arcs), slices.Clone(f), slices.Clone(walk)
	n := api.Net{Nodes: 5, Source: 1, Sink: 4, Arcs: arcs[:8]}
	for range 3 {
		tryRoom(t, n, f[:8], []int64{1, 4, 1, 2, 2, 2, 1, 1, 1, 1, 6, 3, 1, 1, 0, 0}, api.OK)
		tryEnds(t, n, 16, 0, 0)
		tryFrom(t, n, 1, 0, 13, 14)
		tryFrom(t, n, 5)
		tryReach(t, n, f[:8], 1, 1, 2, 3, 4)
		tryPush(t, n, f[:8],
			pushCase{walk[:2], 1, []int64{5, 3, 2, 1, 1, 3, 1, 0}, api.OK},
			pushCase{walk[:2], 2, nil, api.ErrState},
			pushCase{[]int{0, 2, 12, 0, 2}, 1, nil, api.ErrState},
			pushCase{walk, 1, nil, api.ErrArg},
		)
		room, _ := Room(n, f[:8])
		pushed, _ := Push(n, f[:8], walk[:2], 1)
		met, _ := Reach(n, f[:8], 1)
		from := From(n, 1)
		clear(room)
		clear(pushed)
		clear(met)
		clear(from)
		_, _, _, _ = append(room, 5), append(pushed, 5), append(met, true), append(from, 5)
	}
	if !slices.Equal(arcs, keptArcs) || !slices.Equal(f, keptF) || !slices.Equal(walk, keptWalk) {
		t.Error(arcs, f, walk)
	}
}

// smallNets are networks of three nodes with so many arcs at most, of all ends, with capacities of 1 and 2.
func smallNets(count int) []api.Net {
	var l []api.Net
	arcs := [][]api.Arc{nil}
	for range count + 1 {
		var next [][]api.Arc
		for _, row := range arcs {
			l = append(l, api.Net{Nodes: 3, Source: 1, Sink: 3, Arcs: row}, api.Net{Nodes: 3, Source: 3, Sink: 2, Arcs: row})
			for ends := range 9 {
				arc := api.Arc{From: 1 + ends/3, To: 1 + ends%3, Cap: int64(1 + (ends+len(row))%2)}
				next = append(next, append(slices.Clone(row), arc))
			}
		}
		arcs = next
	}
	return l
}

// flows are all flows of a network whose capacities are 2 at most.
func flows(n api.Net) [][]int64 {
	all := [][]int64{nil}
	for range n.Arcs {
		var next [][]int64
		for _, row := range all {
			for amount := range int64(3) {
				next = append(next, append(slices.Clone(row), amount))
			}
		}
		all = next
	}
	return slices.DeleteFunc(all, func(f []int64) bool { return flow.Check(n, f) != api.OK })
}

// walks are all rows of so many tracks at most, among them one below the first track and one behind the last.
func walks(n api.Net, count int) [][]int {
	all, last := [][]int{nil}, [][]int{nil}
	for range count {
		var next [][]int
		for _, row := range last {
			for r := -1; r <= 2*len(n.Arcs); r++ {
				next = append(next, append(slices.Clone(row), r))
			}
		}
		all, last = append(all, next...), next
	}
	return all
}

// track is one by the words, told arc by arc.
type track struct {
	from, to int
	room     int64
}

func tracksOf(n api.Net, f []int64) []track {
	var l []track
	for i, arc := range n.Arcs {
		l = append(l, track{arc.From, arc.To, arc.Cap - f[i]}, track{arc.To, arc.From, f[i]})
	}
	return l
}

func TestR1ByTheWords(t *testing.T) {
	for _, n := range smallNets(3) {
		for _, f := range flows(n) {
			var rooms []int64
			starts := make([][]int, 5)
			for r, x := range tracksOf(n, f) {
				rooms = append(rooms, x.room)
				starts[x.from] = append(starts[x.from], r)
				tryEnds(t, n, r, x.from, x.to)
			}
			tryRoom(t, n, f, rooms, api.OK)
			for v, want := range starts {
				tryFrom(t, n, v, want...)
			}
		}
	}
}

// pushOf goes by the words of R2, for a flow: behind each piece of the walk, its tracks counted anew, every amount must be in range.
func pushOf(n api.Net, f []int64, walk []int, amount int64) ([]int64, api.Errno) {
	all := tracksOf(n, f)
	if len(walk) == 0 {
		return nil, api.ErrArg
	}
	for i, r := range walk {
		if r < 0 || r >= len(all) || i > 0 && all[walk[i-1]].to != all[r].from {
			return nil, api.ErrArg
		}
	}
	if all[walk[0]].from != n.Source || all[walk[len(walk)-1]].to != n.Sink {
		return nil, api.ErrArg
	}
	if amount < 1 {
		return nil, api.ErrRange
	}
	var l []int64
	for k := range walk {
		l = slices.Clone(f)
		for _, r := range walk[:k+1] {
			l[r/2] += amount * int64(1-r%2*2)
		}
		for i, arc := range n.Arcs {
			if l[i] < 0 || l[i] > arc.Cap {
				return nil, api.ErrState
			}
		}
	}
	return l, api.OK
}

func TestR2ByTheWords(t *testing.T) {
	for _, n := range smallNets(2) {
		all := walks(n, 4)
		for _, f := range flows(n) {
			for _, walk := range all {
				for amount := range int64(4) {
					want, e := pushOf(n, f, walk, amount)
					tryPush(t, n, f, pushCase{walk, amount, want, e})
				}
			}
		}
	}
}

// reachOf goes by the words of R3: as long as a track leads on from a node that is reached, its end is reached, too.
func reachOf(n api.Net, f []int64, least int64) []int {
	met := []int{n.Source}
	for more := true; more; {
		more = false
		for _, x := range tracksOf(n, f) {
			if x.room >= least && slices.Contains(met, x.from) && !slices.Contains(met, x.to) {
				met, more = append(met, x.to), true
			}
		}
	}
	return met
}

func TestR3ByTheWords(t *testing.T) {
	for _, n := range smallNets(3) {
		for _, f := range flows(n) {
			for k := int64(1); k <= 3; k++ {
				tryReach(t, n, f, k, reachOf(n, f, k)...)
			}
		}
	}
}

// tryFollows pushes along all walks of four tracks at most.
func tryFollows(t *testing.T, n api.Net, f []int64, all [][]int) {
	t.Helper()
	value, _ := flow.Value(n, f)
	met, _ := Reach(n, f, 1)
	for _, walk := range all {
		for amount := int64(1); amount <= 2; amount++ {
			l, e := Push(n, f, walk, amount)
			if e != api.OK {
				continue
			}
			if !met[n.Sink] {
				t.Errorf("%v, %d: %d has room for %d, but the sink is not reached", n, f, walk, amount)
			}
			if more, e := flow.Value(n, l); more != value+amount || e != api.OK {
				t.Errorf("%v, %d, %d pushed along %d: worth %d, %d; was worth %d", n, f, amount, walk, more, e, value)
			}
		}
	}
}

func TestR4WhatFollows(t *testing.T) {
	for _, n := range smallNets(2) {
		all := walks(n, 4)
		for _, f := range flows(n) {
			tryFollows(t, n, f, all)
		}
	}
}

// With three nodes, a walk to a sink that is reached needs two tracks at most: one of them has room.
func TestR4ASinkThatIsReachedHasAWalk(t *testing.T) {
	for _, n := range smallNets(3) {
		all := walks(n, 2)
		for _, f := range flows(n) {
			for k := int64(1); k <= 2; k++ {
				met, _ := Reach(n, f, k)
				has := slices.ContainsFunc(all, func(walk []int) bool {
					_, e := Push(n, f, walk, k)
					return e == api.OK
				})
				if met[n.Sink] != has {
					t.Errorf("%v, %d: the sink is reached over %d: %v, but a walk: %v", n, f, k, met[n.Sink], has)
				}
			}
		}
	}
}

// What is pushed along a walk is taken off again along the same one turned round, from the sink to the source.
func TestR4PushedAgainAndAgain(t *testing.T) {
	n, f := crossed()
	back := n
	back.Source, back.Sink = n.Sink, n.Source
	for range 3 {
		l, e := Push(n, f, []int{6, 3, 8}, 1)
		if e != api.OK {
			t.Fatal(f, e)
		}
		tryPush(t, back, l, pushCase{[]int{9, 2, 7}, 1, f, api.OK})
		f = l
	}
	if value, e := flow.Value(n, f); value != 8 || e != api.OK {
		t.Error(f, value, e)
	}
	tryPush(t, n, f, pushCase{[]int{6, 3, 8}, 1, nil, api.ErrState})
	tryReach(t, n, f, 1, 1, 2, 3)
}
