package scale

import (
	"math"
	"math/bits"
	"slices"
	"testing"

	"raceway/api"
	"raceway/dinic"
	"raceway/flow"
	"raceway/net"
	"raceway/num"
)

const (
	most   = math.MaxInt64
	lowest = math.MinInt64
)

// network has its source at 1 and its sink at its last node.
func network(nodes int, arcs ...api.Arc) api.Net {
	return api.Net{Nodes: nodes, Source: 1, Sink: nodes, Arcs: arcs}
}

// sample has arcs beside one another, a loop, an arc to the source, one from the sink, and one without a capacity. Its source is 2, its sink 5, to which there are ways of one arc, two, three and four.
func sample() api.Net {
	return api.Net{Nodes: 6, Source: 2, Sink: 5, Arcs: []api.Arc{
		{From: 2, To: 5, Cap: 2},
		{From: 2, To: 3, Cap: 5},
		{From: 3, To: 5, Cap: 3},
		{From: 3, To: 4, Cap: 4},
		{From: 4, To: 5, Cap: 1},
		{From: 4, To: 6, Cap: 5},
		{From: 6, To: 5, Cap: 2},
		{From: 4, To: 4, Cap: 9},
		{From: 3, To: 2, Cap: 9},
		{From: 5, To: 1, Cap: 9},
		{From: 2, To: 3, Cap: 1},
		{From: 2, To: 5, Cap: 0},
	}}
}

// sampleMost and sampleTurns are what Max tells of sample.
func sampleMost() []int64 { return []int64{2, 5, 3, 3, 1, 2, 2, 0, 0, 0, 1, 0} }

func sampleTurns() []Turn { return []Turn{{8, 0, 0, 0}, {4, 0, 0, 0}, {2, 3, 3, 7}, {1, 1, 1, 8}} }

// beside are arcs from 1 to 2, of these capacities.
func beside(capacities ...int64) api.Net {
	n := network(2)
	for _, c := range capacities {
		n.Arcs = append(n.Arcs, api.Arc{From: 1, To: 2, Cap: c})
	}
	return n
}

// turnsOf goes through the turns by the words of the document.
func turnsOf(n api.Net, engine byte) ([]int64, []Turn) {
	var greatest int64
	for _, arc := range n.Arcs {
		greatest = max(greatest, arc.Cap)
	}
	l := make([]int64, len(n.Arcs))
	var turns []Turn
	for least := num.Floor(greatest); least >= 1; least /= 2 {
		r, _ := dinic.From(n, l, least, engine)
		value, _ := flow.Value(n, r.Flow)
		l, turns = r.Flow, append(turns, Turn{least, r.Phases, r.Walks, value})
	}
	return l, turns
}

// tryWords holds Max of both engines against the words of the document, looks at what follows of them, and tells what both engines tell.
func tryWords(t *testing.T, n api.Net) ([]int64, []Turn) {
	t.Helper()
	f, turns, _ := Max(n, 'p')
	for _, engine := range []byte{'p', 't'} {
		l, got, e := Max(n, engine)
		want, wantTurns := turnsOf(n, engine)
		if !slices.Equal(l, want) || !slices.Equal(got, wantTurns) || e != api.OK {
			t.Errorf("Max(%v, %c): %d, %v, %d; want %d, %v", n, engine, l, got, e, want, wantTurns)
		}
		if !slices.Equal(l, f) || !slices.Equal(got, turns) {
			t.Errorf("Max(%v): %d, %v; %d, %v", n, l, got, f, turns)
		}
		tryGreatest(t, n, l, engine)
	}
	tryTurns(t, n, turns)
	return f, turns
}

// tryGreatest: what there is at last is a flow of the value that dinic.Max has.
func tryGreatest(t *testing.T, n api.Net, l []int64, engine byte) {
	t.Helper()
	value, e := flow.Value(n, l)
	m, _ := dinic.Max(n, engine)
	if greatest, _ := flow.Value(n, m.Flow); e != api.OK || value != greatest {
		t.Errorf("Max(%v, %c): %d is worth %d, %d; want %d", n, engine, l, value, e, greatest)
	}
}

// tryTurns: each room is half of the one ahead, the last one is 1, and behind a turn there is less to gain than its room for each track.
func tryTurns(t *testing.T, n api.Net, turns []Turn) {
	t.Helper()
	m, _ := dinic.Max(n, 'p')
	greatest, _ := flow.Value(n, m.Flow)
	room, value := Starts(n), int64(0)
	for _, turn := range turns {
		// A room for each track may go beyond 64 bits.
		high, low := bits.Mul64(uint64(room), uint64(2*len(n.Arcs)))
		if turn.Least != room || turn.Value < value || turn.Value > greatest || high == 0 && uint64(greatest-turn.Value) >= low {
			t.Errorf("Max(%v): %v, of %v; the greatest value is %d", n, turn, turns, greatest)
		}
		if turn.Phases < 0 || turn.Phases >= n.Nodes || turn.Walks < turn.Phases || (turn.Walks > 0) != (turn.Value > value) {
			t.Errorf("Max(%v): %v, of %v", n, turn, turns)
		}
		room, value = room/2, turn.Value
	}
	if room != 0 || value != greatest {
		t.Errorf("Max(%v): %v; the greatest value is %d", n, turns, greatest)
	}
}

func tryMax(t *testing.T, n api.Net, want []int64, wantTurns []Turn) {
	t.Helper()
	if f, turns := tryWords(t, n); !slices.Equal(f, want) || !slices.Equal(turns, wantTurns) {
		t.Errorf("Max(%v): %d, %v; want %d, %v", n, f, turns, want, wantTurns)
	}
}

func tryNoMax(t *testing.T, n api.Net, engine byte, want api.Errno) {
	t.Helper()
	if f, turns, e := Max(n, engine); len(f) != 0 || len(turns) != 0 || e != want {
		t.Errorf("Max(%v, %q): %v, %v, %d; want %d", n, engine, f, turns, e, want)
	}
}

func tryStarts(t *testing.T, n api.Net, want int64) {
	t.Helper()
	if got := Starts(n); got != want {
		t.Errorf("Starts(%v): %d; want %d", n, got, want)
	}
}

func TestC1NothingToStartFrom(t *testing.T) {
	for _, n := range []api.Net{
		network(2),
		network(500),
		beside(0),
		beside(0, 0, 0),
		network(3, api.Arc{From: 1, To: 2}, api.Arc{From: 2, To: 3}),
	} {
		tryStarts(t, n, 0)
	}
}

func TestC1PowersOfTwo(t *testing.T) {
	for k := range 62 {
		power := int64(1) << k
		tryStarts(t, beside(power), power)
		if k > 0 {
			tryStarts(t, beside(power-1), power/2)
			tryStarts(t, beside(power+1), power)
		}
	}
	tryStarts(t, beside(1), 1)
	tryStarts(t, beside(5), 4)
	tryStarts(t, beside(api.MaxSum), 1<<61)
	tryStarts(t, beside(api.MaxSum-1), 1<<61)
}

// The greatest capacity counts wherever its arc stands, and wherever it goes; what they are together does not.
func TestC1TheGreatestCapacity(t *testing.T) {
	tryStarts(t, sample(), 8)
	tryStarts(t, net.Turn(sample()), 8)
	tryStarts(t, beside(9, 1, 0), 8)
	tryStarts(t, beside(1, 9, 0), 8)
	tryStarts(t, beside(0, 1, 9), 8)
	tryStarts(t, beside(3, 3, 3, 3, 3), 2)
	tryStarts(t, beside(7, 7), 4)
	for _, arc := range []api.Arc{{From: 2, To: 2, Cap: 1 << 40}, {From: 3, To: 1, Cap: 1 << 40}, {From: 2, To: 1, Cap: 1 << 40}, {From: 3, To: 3, Cap: 1 << 40}} {
		tryStarts(t, network(3, api.Arc{From: 1, To: 2, Cap: 5}, arc, api.Arc{From: 2, To: 3, Cap: 6}), 1<<40)
	}
	many := beside(slices.Repeat([]int64{6}, 1999)...)
	tryStarts(t, many, 4)
	many.Arcs = append(many.Arcs, api.Arc{From: 1, To: 2, Cap: 8})
	tryStarts(t, many, 8)
}

// Of these some answer comes.
func TestC1WrongNetworks(t *testing.T) {
	for _, c := range wrongNets() {
		Starts(c.n)
	}
	for _, capacity := range []int64{lowest, lowest + 1, -1, most - 1, most} {
		Starts(beside(capacity))
		Starts(beside(capacity, 0, capacity))
		Starts(api.Net{Nodes: lowest, Source: most, Sink: lowest, Arcs: beside(capacity, 5).Arcs})
	}
}

func TestC2Example(t *testing.T) {
	tryMax(t, beside(5), []int64{5}, []Turn{{4, 1, 1, 5}, {2, 0, 0, 5}, {1, 0, 0, 5}})
}

func TestC2EnginesByTheirLetters(t *testing.T) {
	for _, engine := range []byte{dinic.Plain, dinic.Tree} {
		f, turns, e := Max(sample(), engine)
		if !slices.Equal(f, sampleMost()) || !slices.Equal(turns, sampleTurns()) || e != api.OK {
			t.Error(f, turns, e)
		}
	}
}

// The sample has turns of no phase, as only its loop, the arc to its source and that from its sink have so much room, and one of three phases.
func TestC2Sample(t *testing.T) {
	tryMax(t, sample(), sampleMost(), sampleTurns())
	tryMax(t, net.Turn(sample()), sampleMost(), sampleTurns())
}

func TestC2NoTurns(t *testing.T) {
	tryMax(t, network(2), nil, nil)
	tryMax(t, network(500), nil, nil)
	tryMax(t, api.Net{Nodes: 500, Source: 500, Sink: 499}, nil, nil)
	tryMax(t, beside(0), []int64{0}, nil)
	tryMax(t, beside(0, 0, 0), []int64{0, 0, 0}, nil)
	tryMax(t, network(3, api.Arc{From: 1, To: 2}, api.Arc{From: 2, To: 3}, api.Arc{From: 2, To: 2}), []int64{0, 0, 0}, nil)
	n := beside(slices.Repeat([]int64{0}, 2000)...)
	tryMax(t, n, make([]int64, 2000), nil)
}

// Nothing ever flows, but each room has its turn.
func TestC2TurnsWithoutAWay(t *testing.T) {
	arc := func(from, to int) api.Arc { return api.Arc{From: from, To: to, Cap: 5} }
	for _, n := range []api.Net{
		network(2, arc(2, 1)),
		network(2, arc(1, 1), arc(2, 2)),
		network(3, arc(1, 2), arc(1, 2), arc(2, 1)),
		network(4, arc(1, 2), arc(3, 4)),
		network(4, arc(1, 2), arc(2, 3), arc(1, 3), arc(4, 3)),
		network(3, arc(1, 2), api.Arc{From: 2, To: 3}),
		{Nodes: 3, Source: 3, Sink: 1, Arcs: []api.Arc{arc(1, 2), arc(2, 3)}},
	} {
		tryMax(t, n, make([]int64, len(n.Arcs)), []Turn{{4, 0, 0, 0}, {2, 0, 0, 0}, {1, 0, 0, 0}})
	}
}

// The first room is the power of two below the greatest capacity, and fills the only arc; all others are halves, down to 1.
func TestC2Rooms(t *testing.T) {
	for k := range 62 {
		power := int64(1) << k
		for _, capacity := range []int64{power, power + power/2, power + (power - 1)} {
			want := []Turn{{power, 1, 1, capacity}}
			for i := k - 1; i >= 0; i-- {
				want = append(want, Turn{1 << i, 0, 0, capacity})
			}
			tryMax(t, beside(capacity), []int64{capacity}, want)
		}
	}
}

func TestC2ArcsBesideOneAnother(t *testing.T) {
	tryMax(t, beside(5, 0, 3, 5, 8), []int64{5, 0, 3, 5, 8}, []Turn{{8, 1, 1, 8}, {4, 1, 2, 18}, {2, 1, 1, 21}, {1, 0, 0, 21}})
	n := beside(5, 1)
	n.Arcs = append(n.Arcs, api.Arc{From: 2, To: 1, Cap: 17}, api.Arc{From: 1, To: 1, Cap: 7}, api.Arc{From: 2, To: 2, Cap: 7})
	tryMax(t, n, []int64{5, 1, 0, 0, 0}, []Turn{{16, 0, 0, 0}, {8, 0, 0, 0}, {4, 1, 1, 5}, {2, 0, 0, 5}, {1, 1, 1, 6}})
}

// Only what has the room is gone by in a turn, so that the long way comes ahead of the short one, and of the arcs of one way the least tells the turn.
func TestC2WideWaysFirst(t *testing.T) {
	tryMax(t, network(4,
		api.Arc{From: 1, To: 4, Cap: 1},
		api.Arc{From: 1, To: 3, Cap: 2},
		api.Arc{From: 3, To: 4, Cap: 3},
		api.Arc{From: 1, To: 2, Cap: 6},
		api.Arc{From: 2, To: 3, Cap: 5},
		api.Arc{From: 3, To: 4, Cap: 7},
	), []int64{1, 2, 2, 5, 5, 5}, []Turn{{4, 1, 1, 5}, {2, 1, 1, 7}, {1, 1, 1, 8}})
	for least := range 6 {
		want := []Turn{{32, 0, 0, 0}, {16, 0, 0, 0}, {8, 0, 0, 0}, {4, 0, 0, 0}, {2, 0, 0, 0}, {1, 0, 0, 0}}
		for i := range want[5-least:] {
			want[5-least+i].Value = 1 << least
		}
		want[5-least].Phases, want[5-least].Walks = 1, 1
		n := network(3, api.Arc{From: 1, To: 2, Cap: 63}, api.Arc{From: 2, To: 3, Cap: 1 << least})
		tryMax(t, n, []int64{1 << least, 1 << least}, want)
	}
}

// Amounts of an earlier turn are gone on from: a later turn leads back what they led wrong.
func TestC2WalksOverTracksBack(t *testing.T) {
	tryMax(t, network(4,
		api.Arc{From: 1, To: 2, Cap: 4},
		api.Arc{From: 2, To: 3, Cap: 5},
		api.Arc{From: 3, To: 4, Cap: 4},
		api.Arc{From: 1, To: 3, Cap: 3},
		api.Arc{From: 2, To: 4, Cap: 3},
	), []int64{4, 1, 4, 3, 3}, []Turn{{4, 1, 1, 4}, {2, 1, 1, 7}, {1, 0, 0, 7}})
	tryMax(t, network(8,
		api.Arc{From: 1, To: 2, Cap: 4},
		api.Arc{From: 2, To: 3, Cap: 4},
		api.Arc{From: 3, To: 8, Cap: 4},
		api.Arc{From: 1, To: 4, Cap: 4},
		api.Arc{From: 4, To: 5, Cap: 4},
		api.Arc{From: 5, To: 3, Cap: 4},
		api.Arc{From: 2, To: 6, Cap: 3},
		api.Arc{From: 6, To: 7, Cap: 4},
		api.Arc{From: 7, To: 8, Cap: 4},
	), []int64{4, 1, 4, 3, 3, 3, 3, 3, 3}, []Turn{{4, 1, 1, 4}, {2, 1, 1, 7}, {1, 0, 0, 7}})
}

// The amounts are those of the turns, not those of dinic.Max, which goes by other walks.
func TestC2OtherAmountsThanThoseOfMax(t *testing.T) {
	n := network(6,
		api.Arc{From: 1, To: 2, Cap: 10},
		api.Arc{From: 1, To: 3, Cap: 10},
		api.Arc{From: 2, To: 4, Cap: 4},
		api.Arc{From: 2, To: 5, Cap: 8},
		api.Arc{From: 2, To: 3, Cap: 2},
		api.Arc{From: 3, To: 5, Cap: 9},
		api.Arc{From: 4, To: 6, Cap: 10},
		api.Arc{From: 5, To: 4, Cap: 6},
		api.Arc{From: 5, To: 6, Cap: 10},
	)
	tryMax(t, n, []int64{10, 9, 3, 7, 0, 9, 9, 6, 10}, []Turn{{8, 1, 1, 8}, {4, 1, 1, 14}, {2, 1, 2, 18}, {1, 1, 1, 19}})
	if m, _ := dinic.Max(n, 'p'); !slices.Equal(m.Flow, []int64{10, 9, 4, 6, 0, 9, 9, 5, 10}) {
		t.Error(m)
	}
}

// halves are turns of no phase with this value, from a room on.
func halves(room, value int64) []Turn {
	var l []Turn
	for ; room > 0; room /= 2 {
		l = append(l, Turn{room, 0, 0, value})
	}
	return l
}

func TestC2CapacitiesNearTheGreatest(t *testing.T) {
	const half = int64(1) << 61
	tryMax(t, beside(api.MaxSum), []int64{api.MaxSum}, append([]Turn{{half, 1, 1, api.MaxSum}}, halves(half/2, api.MaxSum)...))
	tryMax(t, beside(half, half-2, 1), []int64{half, half - 2, 1}, slices.Concat(
		[]Turn{{half, 1, 1, half}, {half / 2, 1, 1, 2*half - 2}}, halves(half/4, 2*half-2)[:59], []Turn{{1, 1, 1, api.MaxSum}}))
	tryMax(t, network(2, api.Arc{From: 2, To: 1, Cap: api.MaxSum}), []int64{0}, halves(half, 0))
	narrow := network(3, api.Arc{From: 1, To: 2, Cap: api.MaxSum - 1}, api.Arc{From: 2, To: 3, Cap: 1})
	tryMax(t, narrow, []int64{1, 1}, append(halves(half, 0)[:61], Turn{1, 1, 1, 1}))
	part := int64(api.MaxSum / 4)
	tryMax(t, network(4,
		api.Arc{From: 1, To: 2, Cap: part + 1},
		api.Arc{From: 2, To: 4, Cap: part},
		api.Arc{From: 2, To: 3, Cap: part},
		api.Arc{From: 3, To: 4, Cap: part + 2},
	), []int64{part + 1, part, 1, 1}, slices.Concat([]Turn{{part + 1, 0, 0, 0}, {(part + 1) / 2, 1, 1, part}}, halves((part+1)/4, part)[:58], []Turn{{1, 1, 1, part + 1}}))
}

// Each turn fills the arcs that have its room, and no twice of it.
func TestC2AsManyArcsAsThereMayBe(t *testing.T) {
	n, want := network(2), make([]int64, 2000)
	for i := range 2000 {
		want[i] = int64(2000 - i)
		n.Arcs = append(n.Arcs, api.Arc{From: 1, To: 2, Cap: want[i]})
	}
	tryMax(t, n, want, []Turn{
		{1024, 1, 977, 2001000 - 1023*1024/2},
		{512, 1, 512, 2001000 - 511*512/2},
		{256, 1, 256, 2001000 - 255*256/2},
		{128, 1, 128, 2001000 - 127*128/2},
		{64, 1, 64, 2001000 - 63*64/2},
		{32, 1, 32, 2001000 - 31*32/2},
		{16, 1, 16, 2001000 - 15*16/2},
		{8, 1, 8, 2001000 - 7*8/2},
		{4, 1, 4, 2001000 - 3*4/2},
		{2, 1, 2, 2001000 - 1},
		{1, 1, 1, 2001000},
	})
}

func TestC2AsManyNodesAsThereMayBe(t *testing.T) {
	n := network(500)
	for v := 1; v < 500; v++ {
		n.Arcs = append(n.Arcs, api.Arc{From: v, To: v + 1, Cap: 7})
	}
	tryMax(t, n, slices.Repeat([]int64{7}, 499), []Turn{{4, 1, 1, 7}, {2, 0, 0, 7}, {1, 0, 0, 7}})
	n.Arcs[250].Cap = 1
	tryMax(t, n, slices.Repeat([]int64{1}, 499), []Turn{{4, 0, 0, 0}, {2, 0, 0, 0}, {1, 1, 1, 1}})
}

// ladder has a way by all of its nodes, and from each of them arcs to the sink: a phase for each node.
func ladder(nodes, arcs int, capacity func(i int) int64) api.Net {
	n := network(nodes)
	for v := 1; v < nodes-1; v++ {
		n.Arcs = append(n.Arcs, api.Arc{From: v, To: v + 1, Cap: 1 << 40})
	}
	for i := len(n.Arcs); i < arcs; i++ {
		n.Arcs = append(n.Arcs, api.Arc{From: 1 + i%(nodes-1), To: nodes, Cap: capacity(i)})
	}
	return n
}

func TestC2AsManyPhasesAsThereMayBe(t *testing.T) {
	n, want := ladder(500, 2000, func(int) int64 { return 1 }), append(halves(1<<40, 0)[:40], Turn{1, 499, 1502, 1502})
	for _, engine := range []byte{'p', 't'} {
		f, turns, e := Max(n, engine)
		if value, _ := flow.Value(n, f); !slices.Equal(turns, want) || value != 1502 || e != api.OK {
			t.Error(turns, value, e)
		}
	}
	_, turns := tryWords(t, ladder(100, 600, func(i int) int64 { return 1 << (i * i % 13) }))
	phases := 0
	for _, turn := range turns {
		phases += turn.Phases
	}
	if phases < 300 {
		t.Error(phases)
	}
}

type wrongNet struct {
	n api.Net
	e api.Errno
}

// wrongNets are networks that are not right, each with net.Check's error.
func wrongNets() []wrongNet {
	arc := api.Arc{From: 1, To: 2, Cap: 5}
	return []wrongNet{
		{api.Net{}, api.ErrRange},
		{network(-1), api.ErrRange},
		{network(1), api.ErrRange},
		{network(501, arc), api.ErrRange},
		{network(lowest, arc), api.ErrRange},
		{network(most, arc), api.ErrRange},
		{api.Net{Nodes: 2, Source: 0, Sink: 2}, api.ErrNode},
		{api.Net{Nodes: 2, Source: 1, Sink: 3}, api.ErrNode},
		{api.Net{Nodes: 2, Source: lowest, Sink: most}, api.ErrNode},
		{api.Net{Nodes: 2, Source: 2, Sink: 2}, api.ErrSame},
		{network(2, slices.Repeat([]api.Arc{arc}, 2001)...), api.ErrCount},
		{network(2, slices.Repeat([]api.Arc{{From: 1, To: 2}}, 2001)...), api.ErrCount},
		{network(2, arc, api.Arc{From: 3, To: 1}), api.ErrNode},
		{network(2, arc, api.Arc{From: 1, To: -1}), api.ErrNode},
		{network(2, api.Arc{From: 0, To: 2}), api.ErrNode},
		{network(2, arc, api.Arc{From: 1, To: 2, Cap: -1}), api.ErrRange},
		{network(2, api.Arc{From: 1, To: 2, Cap: lowest}), api.ErrRange},
		{network(2, arc, api.Arc{From: 1, To: 2, Cap: most}), api.ErrSum},
		{beside(most), api.ErrSum},
		{beside(api.MaxSum + 1), api.ErrSum},
		{beside(api.MaxSum, 1), api.ErrSum},
	}
}

// The error of the network is told ahead of that of the engine, be there turns or not.
func TestC2WrongNetworks(t *testing.T) {
	for _, c := range wrongNets() {
		if e := net.Check(c.n); e != c.e {
			t.Error(c, e)
		}
		for _, engine := range []byte{'p', 't', 'x', 'P', 0, 255} {
			tryNoMax(t, c.n, engine, c.e)
		}
	}
}

// An engine that there is not is told even where there would be no turn, or no phase.
func TestC2WrongEngines(t *testing.T) {
	for code := range 256 {
		engine := byte(code)
		if engine == 'p' || engine == 't' {
			continue
		}
		tryNoMax(t, sample(), engine, api.ErrArg)
		tryNoMax(t, network(2), engine, api.ErrArg)
		tryNoMax(t, beside(0), engine, api.ErrArg)
		tryNoMax(t, beside(5), engine, api.ErrArg)
		tryNoMax(t, network(2, api.Arc{From: 2, To: 1, Cap: api.MaxSum}), engine, api.ErrArg)
	}
}

// P3 and P4: nothing is written into, lists are new, calls know nothing of one another, and what lies behind a list's length is neither read nor written.
func TestC1AndC2NothingIsWrittenInto(t *testing.T) {
	arcs := append(sample().Arcs, api.Arc{From: 2, To: 5, Cap: 1 << 50})
	kept := slices.Clone(arcs)
	n := sample()
	n.Arcs = arcs[:12]
	for _, engine := range []byte{'p', 't'} {
		first, firstTurns, _ := Max(n, engine)
		for range 3 {
			tryStarts(t, n, 8)
			tryNoMax(t, n, 'x', api.ErrArg)
			f, turns, _ := Max(n, engine)
			for _, l := range [][]int64{f, first} {
				if !slices.Equal(l, sampleMost()) {
					t.Error(l)
				}
			}
			for _, l := range [][]Turn{turns, firstTurns} {
				if !slices.Equal(l, sampleTurns()) {
					t.Error(l)
				}
			}
			clear(f)
			clear(turns)
			_, _ = append(f, 5), append(turns, Turn{5, 5, 5, 5})
			zero, _, _ := Max(beside(0, 0), engine)
			zero[0] = 5
		}
	}
	if !slices.Equal(arcs, kept) {
		t.Error(arcs)
	}
}

// leastCut tries all cuts of a small network.
func leastCut(n api.Net) int64 {
	least := int64(most)
	for set := range 1 << (n.Nodes + 1) {
		if set>>n.Source&1 == 0 || set>>n.Sink&1 == 1 {
			continue
		}
		sum := int64(0)
		for _, arc := range n.Arcs {
			if set>>arc.From&1 == 1 && set>>arc.To&1 == 0 {
				sum += arc.Cap
			}
		}
		least = min(least, sum)
	}
	return least
}

// tryCut: at last the value is that of the least cut, which is found without any flow.
func tryCut(t *testing.T, n api.Net) []Turn {
	t.Helper()
	f, turns := tryWords(t, n)
	if value, e := flow.Value(n, f); value != leastCut(n) || e != api.OK {
		t.Errorf("Max(%v): %d is worth %d; a cut lets %d through", n, f, value, leastCut(n))
	}
	return turns
}

// Networks of four nodes and three arcs, of all ends, with capacities of 0 to 3.
func TestC3AllSmallNetworks(t *testing.T) {
	for code := range 16 * 16 * 16 {
		var arcs []api.Arc
		for i, ends := range []int{code % 16, code / 16 % 16, code / 256} {
			arcs = append(arcs, api.Arc{From: 1 + ends/4, To: 1 + ends%4, Cap: int64(ends+i) % 4})
		}
		tryCut(t, api.Net{Nodes: 4, Source: 1, Sink: 4, Arcs: arcs})
		tryCut(t, api.Net{Nodes: 4, Source: 3, Sink: 2, Arcs: arcs})
	}
}

// ruled networks have arcs whose ends and capacities go by a rule that hangs on a number. Each fourth arc goes from the source, and each fourth to the sink, so that there are many walks.
func ruled(number int) api.Net {
	nodes := 4 + number%9
	n := network(nodes)
	x := uint32(number + 1)
	for i := range 3*nodes + number%7 {
		x = x*1664525 + 1013904223
		arc := api.Arc{From: 1 + int(x>>8)%nodes, To: 1 + int(x>>16)%nodes, Cap: int64(x>>24) % 100}
		if number%3 == 0 {
			arc.Cap *= 1<<50 + 1
		}
		switch i % 4 {
		case 0:
			arc.From = 1
		case 2:
			arc.To = nodes
		}
		n.Arcs = append(n.Arcs, arc)
	}
	return n
}

func TestC3RuledNetworks(t *testing.T) {
	phases, still := 0, 0
	for number := range 300 {
		n := ruled(number)
		turns := tryCut(t, n)
		tryCut(t, net.Turn(n))
		for _, turn := range turns {
			phases += turn.Phases
			if turn.Phases == 0 {
				still++
			}
		}
	}
	if phases < 1000 || still < 1000 {
		t.Error(phases, still)
	}
}

// wide networks have rows of nodes with arcs to the next row, to their own, to the one before and to the one behind the next, by a rule, and as many arcs as there may be.
func wide(capacity func(i int) int64) api.Net {
	n := network(500)
	for i := range 10 {
		n.Arcs = append(n.Arcs, api.Arc{From: 1, To: 2 + i, Cap: 10 * capacity(i)}, api.Arc{From: 392 + i, To: 500, Cap: 10 * capacity(i)})
	}
	for i := range 1980 {
		row, ahead := i%39, []int{1, 1, 1, 0, 1, -1, 1, 2}[i%8]
		to := min(max(row+ahead, 0), 39)
		n.Arcs = append(n.Arcs, api.Arc{From: 2 + 10*row + i*7/39%10, To: 2 + 10*to + (i*i+i/3)%10, Cap: capacity(i)})
	}
	return n
}

func TestC3WideNetworks(t *testing.T) {
	for _, capacity := range []func(i int) int64{
		func(i int) int64 { return int64(1 + i*i%97) },
		func(i int) int64 { return 1 },
		func(i int) int64 { return int64(i*i%97)<<40 + int64(i%5) },
	} {
		f, turns := tryWords(t, wide(capacity))
		walks := 0
		for _, turn := range turns {
			walks += turn.Walks
		}
		if len(f) != 2000 || walks < 5 || turns[len(turns)-1].Value < 5 {
			t.Error(turns)
		}
	}
}

// No turn leads anything out of the sink, but the value is meant as flow.Value means it.
func TestC2ValueIsThatOfFlow(t *testing.T) {
	n := network(3,
		api.Arc{From: 1, To: 2, Cap: 5},
		api.Arc{From: 2, To: 3, Cap: 5},
		api.Arc{From: 3, To: 2, Cap: 5},
		api.Arc{From: 2, To: 1, Cap: 5},
		api.Arc{From: 3, To: 3, Cap: 5},
	)
	for _, f := range [][]int64{{0, 0, 0, 0, 0}, {5, 5, 0, 0, 5}, {0, 0, 4, 4, 3}, {5, 3, 2, 4, 0}, {1, 4, 5, 2, 1}} {
		if want, e := flow.Value(n, f); value(n, f) != want || e != api.OK {
			t.Error(f, value(n, f), want, e)
		}
	}
}
