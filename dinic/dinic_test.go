package dinic

import (
	"math"
	"slices"
	"testing"

	"raceway/api"
	"raceway/flow"
	"raceway/level"
	"raceway/net"
	"raceway/plain"
	"raceway/residual"
	"raceway/tree"
)

const (
	most   = math.MaxInt64
	lowest = math.MinInt64
)

// network has its source at 1 and its sink at its last node.
func network(nodes int, arcs ...api.Arc) api.Net {
	return api.Net{Nodes: nodes, Source: 1, Sink: nodes, Arcs: arcs}
}

// sample has arcs beside one another, a loop, an arc to the source, one from the sink, and one without a capacity. Its source is 2, its sink 5, to which there are ways of one arc, two, three and four.
func sample() api.Net {
	return api.Net{Nodes: 6, Source: 2, Sink: 5, Arcs: []api.Arc{
		{From: 2, To: 5, Cap: 2},
		{From: 2, To: 3, Cap: 5},
		{From: 3, To: 5, Cap: 3},
		{From: 3, To: 4, Cap: 4},
		{From: 4, To: 5, Cap: 1},
		{From: 4, To: 6, Cap: 5},
		{From: 6, To: 5, Cap: 2},
		{From: 4, To: 4, Cap: 9},
		{From: 3, To: 2, Cap: 9},
		{From: 5, To: 1, Cap: 9},
		{From: 2, To: 3, Cap: 1},
		{From: 2, To: 5, Cap: 0},
	}}
}

// sampleMost is what Max tells of sample.
func sampleMost() []int64 { return []int64{2, 5, 3, 3, 1, 2, 2, 0, 0, 0, 1, 0} }

// beside are arcs from 1 to 2, of these capacities.
func beside(capacities ...int64) api.Net {
	n := network(2)
	for _, c := range capacities {
		n.Arcs = append(n.Arcs, api.Arc{From: 1, To: 2, Cap: c})
	}
	return n
}

// runOf goes through the phases by the words of the document.
func runOf(n api.Net, f []int64, least int64, engine byte) Run {
	r := Run{Flow: slices.Clone(f)}
	for deep, _ := level.Deep(n, r.Flow, least); deep >= 0; deep, _ = level.Deep(n, r.Flow, least) {
		r.Phases++
		if engine == 't' {
			l, walks, steps, _ := tree.Block(n, r.Flow, least)
			r.Flow, r.Walks, r.Steps = l, r.Walks+walks, r.Steps+steps
		} else {
			l, walks, _ := plain.Block(n, r.Flow, least)
			r.Flow, r.Walks = l, r.Walks+len(walks)
		}
	}
	return r
}

func sameRun(a, b Run) bool {
	return slices.Equal(a.Flow, b.Flow) && a.Phases == b.Phases && a.Walks == b.Walks && a.Steps == b.Steps
}

// tryWords holds From against the words of the document, looks at what follows of them, and tells what both engines tell.
func tryWords(t *testing.T, n api.Net, f []int64, least int64) Run {
	t.Helper()
	p, e := From(n, f, least, 'p')
	if want := runOf(n, f, least, 'p'); !sameRun(p, want) || p.Steps != 0 || e != api.OK {
		t.Errorf("From(%v, %d, %d, p): %v, %d; want %v", n, f, least, p, e, want)
	}
	r, e := From(n, f, least, 't')
	if want := runOf(n, f, least, 't'); !sameRun(r, want) || e != api.OK {
		t.Errorf("From(%v, %d, %d, t): %v, %d; want %v", n, f, least, r, e, want)
	}
	if r.Steps < int64(r.Walks) || r.Steps > int64(r.Phases)*tree.Most(n) || (r.Steps > 0) != (r.Phases > 0) {
		t.Errorf("From(%v, %d, %d, t): %v", n, f, least, r)
	}
	r.Steps = 0
	if !sameRun(p, r) || p.Phases >= n.Nodes || p.Walks < p.Phases || flow.Check(n, p.Flow) != api.OK {
		t.Errorf("From(%v, %d, %d): %v, %v", n, f, least, p, r)
	}
	if met, _ := residual.Reach(n, p.Flow, least); met[n.Sink] {
		t.Errorf("From(%v, %d, %d): %v leaves a walk", n, f, least, p)
	}
	return p
}

func tryFrom(t *testing.T, n api.Net, f []int64, least int64, want []int64, phases, walks int) {
	t.Helper()
	if r := tryWords(t, n, f, least); !sameRun(r, Run{want, phases, walks, 0}) {
		t.Errorf("From(%v, %d, %d): %v; want %d, %d phases, %d walks", n, f, least, r, want, phases, walks)
	}
}

// tryMax holds Max against From and against what is wanted.
func tryMax(t *testing.T, n api.Net, want []int64, phases, walks int) {
	t.Helper()
	zero := make([]int64, len(n.Arcs))
	tryFrom(t, n, zero, 1, want, phases, walks)
	for _, engine := range []byte{'p', 't'} {
		r, _ := From(n, zero, 1, engine)
		if m, e := Max(n, engine); !sameRun(m, r) || e != api.OK {
			t.Errorf("Max(%v, %c): %v, %d; want %v", n, engine, m, e, r)
		}
	}
}

func tryFault(t *testing.T, n api.Net, f []int64, least int64, engine byte, want api.Errno) {
	t.Helper()
	if r, e := From(n, f, least, engine); !sameRun(r, Run{}) || e != want {
		t.Errorf("From(%v, %d, %d, %q): %v, %d; want %d", n, f, least, engine, r, e, want)
	}
}

func tryNoMax(t *testing.T, n api.Net, engine byte, want api.Errno) {
	t.Helper()
	if r, e := Max(n, engine); !sameRun(r, Run{}) || e != want {
		t.Errorf("Max(%v, %q): %v, %d; want %d", n, engine, r, e, want)
	}
}

func TestI1Example(t *testing.T) {
	n := network(3, api.Arc{From: 1, To: 2, Cap: 5}, api.Arc{From: 2, To: 3, Cap: 3})
	tryMax(t, n, []int64{3, 3}, 1, 1)
	tryFrom(t, n, []int64{0, 0}, 3, []int64{3, 3}, 1, 1)
	tryFrom(t, n, []int64{0, 0}, 4, []int64{0, 0}, 0, 0)
	tryFrom(t, n, []int64{2, 2}, 1, []int64{3, 3}, 1, 1)
	tryFrom(t, n, []int64{2, 2}, 2, []int64{2, 2}, 0, 0)
	tryFrom(t, n, []int64{3, 3}, 1, []int64{3, 3}, 0, 0)
}

func TestI1EnginesByTheirLetters(t *testing.T) {
	if Plain != 'p' || Tree != 't' {
		t.Error(Plain, Tree)
	}
	n := beside(5)
	if r, e := Max(n, Plain); !sameRun(r, Run{[]int64{5}, 1, 1, 0}) || e != api.OK {
		t.Error(r, e)
	}
	_, _, steps, _ := tree.Block(n, []int64{0}, 1)
	if r, e := Max(n, Tree); !sameRun(r, Run{[]int64{5}, 1, 1, steps}) || e != api.OK {
		t.Error(r, e)
	}
}

func TestI1PhasesHangOnLeast(t *testing.T) {
	n, zero := sample(), make([]int64, 12)
	tryFrom(t, n, zero, 1, sampleMost(), 4, 5)
	tryFrom(t, n, zero, 2, []int64{2, 5, 3, 2, 0, 2, 2, 0, 0, 0, 0, 0}, 3, 3)
	tryFrom(t, n, zero, 3, []int64{0, 3, 3, 0, 0, 0, 0, 0, 0, 0, 0, 0}, 1, 1)
	for _, least := range []int64{4, 9, 10, 1 << 32, 1<<32 + 1, api.MaxSum, 1 << 62, most} {
		tryFrom(t, n, zero, least, zero, 0, 0)
	}
}

// What flows already, round and on a loop too, is gone on from: of the way round the track back is gone by.
func TestI1GoingOn(t *testing.T) {
	n := sample()
	tryFrom(t, n, []int64{0, 3, 3, 0, 0, 0, 0, 0, 0, 0, 0, 0}, 1, sampleMost(), 3, 4)
	tryFrom(t, n, []int64{0, 3, 3, 0, 0, 0, 0, 0, 0, 0, 0, 0}, 2, []int64{2, 5, 3, 2, 0, 2, 2, 0, 0, 0, 0, 0}, 2, 2)
	tryFrom(t, n, []int64{0, 2, 0, 0, 0, 0, 0, 4, 2, 0, 0, 0}, 1, []int64{2, 5, 3, 3, 1, 2, 2, 4, 0, 0, 1, 0}, 4, 5)
	tryFrom(t, n, sampleMost(), 1, sampleMost(), 0, 0)
	tryFrom(t, n, sampleMost(), most, sampleMost(), 0, 0)
}

// A later phase leads back what an earlier one led wrong.
func TestI1WalksOverTracksBack(t *testing.T) {
	n := network(4,
		api.Arc{From: 1, To: 2, Cap: 1},
		api.Arc{From: 2, To: 3, Cap: 1},
		api.Arc{From: 3, To: 4, Cap: 1},
		api.Arc{From: 1, To: 3, Cap: 1},
		api.Arc{From: 2, To: 4, Cap: 1},
	)
	tryFrom(t, n, []int64{1, 1, 1, 0, 0}, 1, []int64{1, 0, 1, 1, 1}, 1, 1)
	tryMax(t, n, []int64{1, 0, 1, 1, 1}, 1, 2)
	crossed := network(8,
		api.Arc{From: 1, To: 2, Cap: 4},
		api.Arc{From: 2, To: 3, Cap: 4},
		api.Arc{From: 3, To: 8, Cap: 4},
		api.Arc{From: 1, To: 4, Cap: 4},
		api.Arc{From: 4, To: 5, Cap: 4},
		api.Arc{From: 5, To: 3, Cap: 4},
		api.Arc{From: 2, To: 6, Cap: 3},
		api.Arc{From: 6, To: 7, Cap: 4},
		api.Arc{From: 7, To: 8, Cap: 4},
	)
	tryMax(t, crossed, []int64{4, 1, 4, 3, 3, 3, 3, 3, 3}, 2, 2)
	tryFrom(t, crossed, make([]int64, 9), 4, []int64{4, 4, 4, 0, 0, 0, 0, 0, 0}, 1, 1)
	tryFrom(t, crossed, []int64{0, 0, 4, 4, 4, 4, 0, 0, 0}, 1, []int64{3, 0, 4, 4, 4, 4, 3, 3, 3}, 1, 1)
}

// More comes to the source than goes out, at first.
func TestI1FlowsThatAreWorthLessThanNothing(t *testing.T) {
	n := network(2, api.Arc{From: 2, To: 1, Cap: 4}, api.Arc{From: 1, To: 2, Cap: 3})
	tryFrom(t, n, []int64{4, 0}, 1, []int64{0, 3}, 1, 2)
	tryFrom(t, n, []int64{4, 0}, 4, []int64{0, 0}, 1, 1)
	tryFrom(t, n, []int64{4, 0}, 5, []int64{4, 0}, 0, 0)
	way := network(3, api.Arc{From: 2, To: 1, Cap: 4}, api.Arc{From: 3, To: 2, Cap: 4})
	tryFrom(t, way, []int64{4, 4}, 1, []int64{0, 0}, 1, 1)
	tryMax(t, way, []int64{0, 0}, 0, 0)
}

func TestI1NoWayAtFirst(t *testing.T) {
	arc := func(from, to int) api.Arc { return api.Arc{From: from, To: to, Cap: 5} }
	for _, n := range []api.Net{
		network(2),
		network(500),
		{Nodes: 500, Source: 500, Sink: 499},
		network(2, arc(2, 1)),
		network(2, arc(1, 1), arc(2, 2)),
		network(2, api.Arc{From: 1, To: 2}),
		network(3, arc(1, 2), arc(1, 2), arc(2, 1)),
		network(4, arc(1, 2), arc(3, 4)),
		network(4, arc(1, 2), arc(2, 3), arc(1, 3), arc(4, 3)),
		{Nodes: 3, Source: 3, Sink: 1, Arcs: []api.Arc{arc(1, 2), arc(2, 3)}},
	} {
		zero := make([]int64, len(n.Arcs))
		tryMax(t, n, zero, 0, 0)
		tryFrom(t, n, zero, most, zero, 0, 0)
	}
	tryFrom(t, network(3, arc(2, 3), arc(3, 2)), []int64{2, 2}, 1, []int64{2, 2}, 0, 0)
	tryFrom(t, network(2, arc(1, 2), arc(2, 1), arc(1, 1)), []int64{5, 0, 3}, 1, []int64{5, 0, 3}, 0, 0)
}

func TestI1NoArcs(t *testing.T) {
	for _, f := range [][]int64{nil, {}} {
		tryFrom(t, network(2), f, 1, nil, 0, 0)
		tryFrom(t, network(2), f, most, nil, 0, 0)
	}
	for _, engine := range []byte{'p', 't'} {
		if r, e := Max(network(2), engine); !sameRun(r, Run{}) || e != api.OK {
			t.Error(r, e)
		}
	}
}

func TestI1ArcsBesideOneAnother(t *testing.T) {
	tryMax(t, beside(5, 0, 3, 5), []int64{5, 0, 3, 5}, 1, 3)
	tryFrom(t, beside(5, 0, 3, 5), []int64{0, 0, 3, 1}, 4, []int64{5, 0, 3, 5}, 1, 2)
	tryFrom(t, beside(5, 0, 3, 5), []int64{0, 0, 3, 1}, 5, []int64{5, 0, 3, 1}, 1, 1)
	n := beside(5, 3)
	n.Arcs = append(n.Arcs, api.Arc{From: 2, To: 1, Cap: 7}, api.Arc{From: 1, To: 1, Cap: 7}, api.Arc{From: 2, To: 2, Cap: 7})
	tryMax(t, n, []int64{5, 3, 0, 0, 0}, 1, 2)
	tryFrom(t, n, []int64{0, 0, 2, 7, 1}, 1, []int64{5, 3, 0, 7, 1}, 1, 3)
}

func TestI1CapacitiesNearTheGreatest(t *testing.T) {
	great := beside(api.MaxSum)
	tryMax(t, great, []int64{api.MaxSum}, 1, 1)
	tryFrom(t, great, []int64{0}, api.MaxSum, []int64{api.MaxSum}, 1, 1)
	tryFrom(t, great, []int64{0}, api.MaxSum+1, []int64{0}, 0, 0)
	tryFrom(t, great, []int64{0}, most, []int64{0}, 0, 0)
	tryFrom(t, great, []int64{1}, api.MaxSum, []int64{1}, 0, 0)
	tryFrom(t, great, []int64{api.MaxSum - 1}, 1, []int64{api.MaxSum}, 1, 1)
	tryMax(t, beside(1<<61, 1<<61-2, 1), []int64{1 << 61, 1<<61 - 2, 1}, 1, 3)
	back := network(2, api.Arc{From: 2, To: 1, Cap: api.MaxSum})
	tryFrom(t, back, []int64{api.MaxSum}, 1, []int64{0}, 1, 1)
	tryFrom(t, back, []int64{api.MaxSum}, most, []int64{api.MaxSum}, 0, 0)
	part := int64(api.MaxSum / 4)
	tryMax(t, network(4,
		api.Arc{From: 1, To: 2, Cap: part + 1},
		api.Arc{From: 2, To: 4, Cap: part},
		api.Arc{From: 2, To: 3, Cap: part},
		api.Arc{From: 3, To: 4, Cap: part + 2},
	), []int64{part + 1, part, 1, 1}, 2, 2)
}

// ladder has a way by all of its nodes, and from each of them arcs to the sink of 1 each, of which those of the nearer nodes are filled first: as many phases as there may be.
func ladder(nodes, arcs int) api.Net {
	n := network(nodes)
	for v := 1; v < nodes-1; v++ {
		n.Arcs = append(n.Arcs, api.Arc{From: v, To: v + 1, Cap: 1 << 40})
	}
	for i := len(n.Arcs); i < arcs; i++ {
		n.Arcs = append(n.Arcs, api.Arc{From: 1 + i%(nodes-1), To: nodes, Cap: 1})
	}
	return n
}

// ladderMost: what goes to the sink beyond a node goes by the arc to the next one.
func ladderMost(n api.Net) []int64 {
	l := make([]int64, len(n.Arcs))
	for i, arc := range n.Arcs {
		if arc.Cap > 1 {
			continue
		}
		l[i] = 1
		for v := 1; v < arc.From; v++ {
			l[v-1]++
		}
	}
	return l
}

func TestI1AsManyPhasesAsThereMayBe(t *testing.T) {
	for nodes := 2; nodes <= 30; nodes++ {
		n := ladder(nodes, 4*nodes)
		tryMax(t, n, ladderMost(n), nodes-1, 3*nodes+2)
	}
	n := ladder(500, 2000)
	tryFrom(t, n, make([]int64, 2000), 1, ladderMost(n), 499, 1502)
}

func TestI1AsManyArcsAsThereMayBe(t *testing.T) {
	n := network(2)
	for i := range 2000 {
		n.Arcs = append(n.Arcs, api.Arc{From: 1, To: 2, Cap: int64(2000 - i)})
	}
	for _, least := range []int{1, 2, 1000, 1999, 2000, 2001} {
		want, count, phases := make([]int64, 2000), 2001-least, 0
		for i := range count {
			want[i], phases = n.Arcs[i].Cap, 1
		}
		tryFrom(t, n, make([]int64, 2000), int64(least), want, phases, count)
	}
}

// ring goes round by all nodes that there may be; the same amount flows on all of its arcs.
func ring(amount int64) (api.Net, []int64) {
	n := network(500)
	for v := 1; v <= 500; v++ {
		n.Arcs = append(n.Arcs, api.Arc{From: v, To: v%500 + 1, Cap: 2})
	}
	return n, slices.Repeat([]int64{amount}, 500)
}

// What flows round goes back, by the arc from the sink to the source, in a phase ahead of that of the long way.
func TestI1AsManyNodesAsThereMayBe(t *testing.T) {
	filled := append(slices.Repeat([]int64{2}, 499), 0)
	n, f := ring(0)
	tryMax(t, n, filled, 1, 1)
	tryFrom(t, n, f, 2, filled, 1, 1)
	tryFrom(t, n, f, 3, f, 0, 0)
	n, f = ring(1)
	tryFrom(t, n, f, 1, filled, 2, 2)
	tryFrom(t, n, f, 2, f, 0, 0)
}

type wrongNet struct {
	n api.Net
	e api.Errno
}

// wrongNets are networks that are not right, each with net.Check's error.
func wrongNets() []wrongNet {
	arc := api.Arc{From: 1, To: 2, Cap: 5}
	return []wrongNet{
		{api.Net{}, api.ErrRange},
		{network(-1), api.ErrRange},
		{network(1), api.ErrRange},
		{network(501, arc), api.ErrRange},
		{network(lowest, arc), api.ErrRange},
		{network(most, arc), api.ErrRange},
		{api.Net{Nodes: 2, Source: 0, Sink: 2}, api.ErrNode},
		{api.Net{Nodes: 2, Source: 1, Sink: 3}, api.ErrNode},
		{api.Net{Nodes: 2, Source: lowest, Sink: most}, api.ErrNode},
		{api.Net{Nodes: 2, Source: 2, Sink: 2}, api.ErrSame},
		{network(2, slices.Repeat([]api.Arc{arc}, 2001)...), api.ErrCount},
		{network(2, arc, api.Arc{From: 3, To: 1}), api.ErrNode},
		{network(2, arc, api.Arc{From: 1, To: -1}), api.ErrNode},
		{network(2, arc, api.Arc{From: 1, To: 2, Cap: -1}), api.ErrRange},
		{network(2, arc, api.Arc{From: 1, To: 2, Cap: most}), api.ErrSum},
		{beside(api.MaxSum, 1), api.ErrSum},
	}
}

// The error of the network is told, whatever else is wrong.
func TestI1WrongNetworks(t *testing.T) {
	for _, c := range wrongNets() {
		for _, f := range [][]int64{nil, {-1}, make([]int64, len(c.n.Arcs)), slices.Repeat([]int64{1}, len(c.n.Arcs)), {most, lowest}} {
			for _, least := range []int64{lowest, 0, 1, most} {
				for _, engine := range []byte{'p', 't', 's', 0} {
					tryFault(t, c.n, f, least, engine, c.e)
				}
			}
		}
	}
}

// The errors of the amounts are told ahead of those of the least room and the engine.
func TestI1NoFlows(t *testing.T) {
	n := sample()
	for _, engine := range []byte{'p', 't', 'x'} {
		for _, least := range []int64{lowest, 0, 1, most} {
			for _, f := range [][]int64{nil, {}, {-1}, make([]int64, 11), make([]int64, 13), make([]int64, 24)} {
				tryFault(t, n, f, least, engine, api.ErrCount)
			}
			tryFault(t, network(2), []int64{0}, least, engine, api.ErrCount)
			for i, arc := range n.Arcs {
				for _, amount := range []int64{lowest, -1, arc.Cap + 1, most} {
					f := make([]int64, 12)
					f[i] = amount
					tryFault(t, n, f, least, engine, api.ErrRange)
				}
			}
			for _, i := range []int{1, 2, 3, 4, 5, 6, 8, 9, 10} {
				f := make([]int64, 12)
				f[i] = 1
				tryFault(t, n, f, least, engine, api.ErrState)
			}
		}
	}
}

// The error of the least room is told ahead of that of the engine.
func TestI1Least(t *testing.T) {
	for _, engine := range []byte{'p', 't', 'x'} {
		for _, least := range []int64{lowest, lowest + 1, -1 << 32, -1, 0} {
			tryFault(t, sample(), make([]int64, 12), least, engine, api.ErrRange)
			tryFault(t, sample(), sampleMost(), least, engine, api.ErrRange)
			tryFault(t, network(2), nil, least, engine, api.ErrRange)
		}
	}
}

// An engine that there is not is told even where there would be no phase.
func TestI1AndI2WrongEngines(t *testing.T) {
	for code := range 256 {
		engine := byte(code)
		if engine == 'p' || engine == 't' {
			continue
		}
		tryFault(t, sample(), make([]int64, 12), 1, engine, api.ErrArg)
		tryFault(t, sample(), sampleMost(), most, engine, api.ErrArg)
		tryFault(t, network(2), nil, 1, engine, api.ErrArg)
		tryNoMax(t, sample(), engine, api.ErrArg)
		tryNoMax(t, network(2), engine, api.ErrArg)
	}
}

// P3 and P4: nothing is written into, lists are new, calls know nothing of one another, and what lies behind a list's length is neither read nor written.
func TestI1AndI2NothingIsWrittenInto(t *testing.T) {
	arcs, f := append(sample().Arcs, api.Arc{From: 2, To: 5, Cap: 9}), append(make([]int64, 12), 7)
	full := append(sampleMost(), 7)
	keptArcs, keptF, keptFull := slices.Clone(arcs), slices.Clone(f), slices.Clone(full)
	n := sample()
	n.Arcs = arcs[:12]
	for _, engine := range []byte{'p', 't'} {
		first, _ := From(n, f[:12], 1, engine)
		kept := Run{slices.Clone(first.Flow), first.Phases, first.Walks, first.Steps}
		for range 3 {
			tryFault(t, n, f[:12], 0, engine, api.ErrRange)
			r, _ := From(n, f[:12], 1, engine)
			m, _ := Max(n, engine)
			if !sameRun(r, kept) || !sameRun(m, kept) || !sameRun(first, kept) {
				t.Error(r, m, first, kept)
			}
			still, _ := From(n, full[:12], 1, engine)
			none, _ := From(n, f[:12], most, engine)
			for _, l := range [][]int64{r.Flow, m.Flow, still.Flow, none.Flow} {
				clear(l)
				l[0] = 5
				_ = append(l, 5)
			}
		}
	}
	if !slices.Equal(arcs, keptArcs) || !slices.Equal(f, keptF) || !slices.Equal(full, keptFull) {
		t.Error(arcs, f, full)
	}
}

func TestI2Max(t *testing.T) {
	tryMax(t, sample(), sampleMost(), 4, 5)
	turned := net.Turn(sample())
	tryMax(t, turned, sampleMost(), 4, 5)
	tryMax(t, network(6,
		api.Arc{From: 1, To: 2, Cap: 10},
		api.Arc{From: 1, To: 3, Cap: 10},
		api.Arc{From: 2, To: 4, Cap: 4},
		api.Arc{From: 2, To: 5, Cap: 8},
		api.Arc{From: 2, To: 3, Cap: 2},
		api.Arc{From: 3, To: 5, Cap: 9},
		api.Arc{From: 4, To: 6, Cap: 10},
		api.Arc{From: 5, To: 4, Cap: 6},
		api.Arc{From: 5, To: 6, Cap: 10},
	), []int64{10, 9, 4, 6, 0, 9, 9, 5, 10}, 2, 4)
}

func TestI2WrongNetworks(t *testing.T) {
	for _, c := range wrongNets() {
		for _, engine := range []byte{'p', 't', 's', 0} {
			tryNoMax(t, c.n, engine, c.e)
		}
	}
}

// leastCut tries all cuts of a small network.
func leastCut(n api.Net) int64 {
	least := int64(most)
	for set := range 1 << (n.Nodes + 1) {
		if set>>n.Source&1 == 0 || set>>n.Sink&1 == 1 {
			continue
		}
		least = min(least, crossing(n, func(v int) bool { return set>>v&1 == 1 }))
	}
	return least
}

// crossing are the capacities together that lead out of a cut.
func crossing(n api.Net, within func(v int) bool) int64 {
	sum := int64(0)
	for _, arc := range n.Arcs {
		if within(arc.From) && !within(arc.To) {
			sum += arc.Cap
		}
	}
	return sum
}

// tryGreatest: with a least room of 1, a flow is worth just what the nodes let through that are come to.
func tryGreatest(t *testing.T, n api.Net, f []int64) int64 {
	t.Helper()
	r := tryWords(t, n, f, 1)
	value, _ := flow.Value(n, r.Flow)
	met, _ := residual.Reach(n, r.Flow, 1)
	if met[n.Sink] || value != crossing(n, func(v int) bool { return met[v] }) {
		t.Errorf("From(%v, %d, 1): %v is worth %d", n, f, r, value)
	}
	return value
}

// smallFlows are the flows of all networks of four nodes and three arcs, of all ends, with capacities of 0 to 2.
func smallFlows(yield func(api.Net, []int64) bool) {
	for code := range 16 * 16 * 16 {
		var arcs []api.Arc
		for i, ends := range []int{code % 16, code / 16 % 16, code / 256} {
			arcs = append(arcs, api.Arc{From: 1 + ends/4, To: 1 + ends%4, Cap: int64(ends+i) % 3})
		}
		for amounts := range int64(27) {
			f := []int64{amounts % 3, amounts / 3 % 3, amounts / 9}
			for _, n := range []api.Net{{Nodes: 4, Source: 1, Sink: 4, Arcs: arcs}, {Nodes: 4, Source: 3, Sink: 2, Arcs: arcs}} {
				if flow.Check(n, f) == api.OK && !yield(n, f) {
					return
				}
			}
		}
	}
}

func TestI3AllSmallFlows(t *testing.T) {
	count := 0
	for n, f := range smallFlows {
		if value, cut := tryGreatest(t, n, f), leastCut(n); value != cut {
			t.Errorf("From(%v, %d, 1) is worth %d; a cut lets %d through", n, f, value, cut)
		}
		tryWords(t, n, f, 2)
		count++
	}
	if count < 1000 {
		t.Error(count)
	}
}

// ruled networks have arcs whose ends and capacities go by a rule that hangs on a number. Each fourth arc goes from the source, and each fourth to the sink, so that there are many walks.
func ruled(number int) api.Net {
	nodes := 4 + number%9
	n := network(nodes)
	x := uint32(number + 1)
	for i := range 3*nodes + number%7 {
		x = x*1664525 + 1013904223
		arc := api.Arc{From: 1 + int(x>>8)%nodes, To: 1 + int(x>>16)%nodes, Cap: int64(x>>24) % 10}
		if number%3 == 0 {
			arc.Cap *= 1<<50 + 1
		}
		switch i % 4 {
		case 0:
			arc.From = 1
		case 2:
			arc.To = nodes
		}
		n.Arcs = append(n.Arcs, arc)
	}
	return n
}

// From whatever flow one goes on, with whatever least room ahead of 1, the value is that of the least cut.
func TestI3RuledNetworks(t *testing.T) {
	phases := 0
	for number := range 300 {
		n := ruled(number)
		zero, cut := make([]int64, len(n.Arcs)), leastCut(n)
		turned := n
		turned.Source, turned.Sink = n.Sink, n.Source
		against, _ := Max(turned, 't')
		flows := [][]int64{zero, against.Flow}
		for _, least := range []int64{2, 5, 7, 1 << 50, 1 << 52} {
			flows = append(flows, tryWords(t, n, zero, least).Flow)
		}
		for _, f := range flows {
			if value := tryGreatest(t, n, f); value != cut {
				t.Errorf("From(%v, %d, 1) is worth %d; a cut lets %d through", n, f, value, cut)
			}
		}
		phases += tryWords(t, n, zero, 1).Phases
	}
	if phases < 500 {
		t.Error(phases)
	}
}

// wide networks have rows of nodes with arcs to the next row, to their own, to the one before and to the one behind the next, by a rule, and as many arcs as there may be.
func wide(capacity func(i int) int64) api.Net {
	n := network(500)
	for i := range 10 {
		n.Arcs = append(n.Arcs, api.Arc{From: 1, To: 2 + i, Cap: 10 * capacity(i)}, api.Arc{From: 392 + i, To: 500, Cap: 10 * capacity(i)})
	}
	for i := range 1980 {
		row, ahead := i%39, []int{1, 1, 1, 0, 1, -1, 1, 2}[i%8]
		to := min(max(row+ahead, 0), 39)
		n.Arcs = append(n.Arcs, api.Arc{From: 2 + 10*row + i*7/39%10, To: 2 + 10*to + (i*i+i/3)%10, Cap: capacity(i)})
	}
	return n
}

func TestI3WideNetworks(t *testing.T) {
	for _, capacity := range []func(i int) int64{
		func(i int) int64 { return int64(1 + i*i%97) },
		func(i int) int64 { return 1 },
		func(i int) int64 { return int64(i*i%97)<<40 + int64(i%5) },
	} {
		n := wide(capacity)
		zero := make([]int64, len(n.Arcs))
		value := tryGreatest(t, n, zero)
		if r := tryWords(t, n, zero, 1); value < 5 || r.Phases < 3 || r.Walks < 10 {
			t.Error(value, r)
		}
		for _, least := range []int64{9, 40, 1 << 42} {
			if again := tryGreatest(t, n, tryWords(t, n, zero, least).Flow); again != value {
				t.Error(again, value)
			}
		}
	}
}
