package flow

import (
	"math"
	"math/big"
	"slices"
	"testing"

	"raceway/api"
	"raceway/net"
)

const (
	most  = math.MaxInt64
	least = math.MinInt64
)

// network has its source at 1 and its sink at its last node.
func network(nodes int, arcs ...api.Arc) api.Net {
	return api.Net{Nodes: nodes, Source: 1, Sink: nodes, Arcs: arcs}
}

// sample has two ways from source to sink, a loop, arcs beside one another, one without a capacity, one from sink to source, and a node without arcs.
func sample() api.Net {
	return api.Net{Nodes: 5, Source: 1, Sink: 4, Arcs: []api.Arc{
		{From: 1, To: 2, Cap: 5},
		{From: 2, To: 4, Cap: 3},
		{From: 2, To: 3, Cap: 4},
		{From: 3, To: 4, Cap: 2},
		{From: 3, To: 4, Cap: 2},
		{From: 3, To: 3, Cap: 9},
		{From: 4, To: 1, Cap: 2},
		{From: 1, To: 4, Cap: 0},
	}}
}

type flowCase struct {
	f     []int64
	value int64
	e     api.Errno
}

// tryFlows asks Check and Value, whose errors are the same.
func tryFlows(t *testing.T, n api.Net, cases ...flowCase) {
	t.Helper()
	for _, c := range cases {
		if e := Check(n, c.f); e != c.e {
			t.Errorf("Check(%v, %d): %d; want %d", n, c.f, e, c.e)
		}
		if x, e := Value(n, c.f); x != c.value || e != c.e {
			t.Errorf("Value(%v, %d): %d, %d; want %d, %d", n, c.f, x, e, c.value, c.e)
		}
	}
}

func tryExcess(t *testing.T, n api.Net, f []int64, v int, want int64, e api.Errno) {
	t.Helper()
	if x, d := Excess(n, f, v); x != want || d != e {
		t.Errorf("Excess(%v, %d, %d): %d, %d; want %d, %d", n, f, v, x, d, want, e)
	}
}

func tryAdd(t *testing.T, n api.Net, f, g, want []int64, e api.Errno) {
	t.Helper()
	if l, d := Add(n, f, g); !slices.Equal(l, want) || d != e {
		t.Errorf("Add(%v, %d, %d): %d, %d; want %d, %d", n, f, g, l, d, want, e)
	}
}

func TestF1Flows(t *testing.T) {
	tryFlows(t, network(2, api.Arc{From: 1, To: 2, Cap: 5}),
		flowCase{[]int64{3}, 3, api.OK},
		flowCase{[]int64{0}, 0, api.OK},
		flowCase{[]int64{5}, 5, api.OK},
	)
	tryFlows(t, sample(),
		flowCase{make([]int64, 8), 0, api.OK},
		flowCase{[]int64{5, 3, 2, 2, 0, 0, 0, 0}, 5, api.OK},
		flowCase{[]int64{5, 3, 2, 1, 1, 9, 0, 0}, 5, api.OK},
		flowCase{[]int64{5, 2, 3, 2, 1, 4, 2, 0}, 3, api.OK},
		flowCase{[]int64{0, 0, 0, 0, 0, 0, 2, 0}, -2, api.OK},
		flowCase{[]int64{2, 2, 0, 0, 0, 0, 2, 0}, 0, api.OK},
		flowCase{[]int64{0, 0, 0, 0, 0, 9, 0, 0}, 0, api.OK},
	)
	for _, none := range [][]int64{nil, {}} {
		tryFlows(t, network(2), flowCase{none, 0, api.OK})
		tryFlows(t, network(500), flowCase{none, 0, api.OK})
	}
}

// Source and sink alone may have an excess, wherever they are.
func TestF1Excesses(t *testing.T) {
	tryFlows(t, sample(),
		flowCase{[]int64{5, 3, 1, 2, 0, 0, 0, 0}, 0, api.ErrState},
		flowCase{[]int64{5, 3, 2, 1, 0, 0, 0, 0}, 0, api.ErrState},
		flowCase{[]int64{4, 3, 2, 2, 0, 0, 0, 0}, 0, api.ErrState},
		flowCase{[]int64{1, 0, 0, 0, 0, 0, 0, 0}, 0, api.ErrState},
		flowCase{[]int64{0, 0, 0, 0, 1, 0, 0, 0}, 0, api.ErrState},
		flowCase{[]int64{0, 0, 1, 0, 0, 1, 0, 0}, 0, api.ErrState},
	)
	for source := 1; source <= 4; source++ {
		for sink := 1; sink <= 4; sink++ {
			n := api.Net{Nodes: 4, Source: source, Sink: sink, Arcs: []api.Arc{{From: 2, To: 3, Cap: 1}}}
			c := flowCase{[]int64{1}, 0, api.ErrState}
			switch {
			case source == sink:
				c.e = api.ErrSame
			case source == 2 && sink == 3:
				c = flowCase{[]int64{1}, 1, api.OK}
			case source == 3 && sink == 2:
				c = flowCase{[]int64{1}, -1, api.OK}
			}
			tryFlows(t, n, c)
		}
	}
}

// The first node and the last one are looked at, too.
func TestF1EveryNode(t *testing.T) {
	for v := 1; v <= 500; v++ {
		n := api.Net{Nodes: 500, Source: 1 + v%500, Sink: 1 + (v+1)%500, Arcs: []api.Arc{{From: 1 + v%500, To: v, Cap: 1}}}
		tryFlows(t, n, flowCase{[]int64{1}, 0, api.ErrState}, flowCase{[]int64{0}, 0, api.OK})
	}
}

func TestF1Amounts(t *testing.T) {
	n := sample()
	for i, arc := range n.Arcs {
		for _, amount := range []int64{least, least + 1, -1 << 32, -1, arc.Cap + 1, arc.Cap + 1<<32, api.MaxSum, most} {
			f := make([]int64, 8)
			f[i] = amount
			tryFlows(t, n, flowCase{f, 0, api.ErrRange})
		}
	}
	for _, amount := range []int64{0, 1, 1 << 32, api.MaxSum - 1, api.MaxSum} {
		tryFlows(t, network(2, api.Arc{From: 1, To: 2, Cap: api.MaxSum}), flowCase{[]int64{amount}, amount, api.OK})
		tryFlows(t, network(2, api.Arc{From: 2, To: 1, Cap: api.MaxSum}), flowCase{[]int64{amount}, -amount, api.OK})
	}
	tryFlows(t, network(2, api.Arc{From: 1, To: 2, Cap: api.MaxSum}), flowCase{[]int64{api.MaxSum + 1}, 0, api.ErrRange})
}

func TestF1HowManyAmounts(t *testing.T) {
	for count := range 40 {
		if count != 8 {
			tryFlows(t, sample(), flowCase{make([]int64, count), 0, api.ErrCount})
		}
	}
	tryFlows(t, sample(), flowCase{nil, 0, api.ErrCount}, flowCase{make([]int64, 1<<20), 0, api.ErrCount})
	tryFlows(t, network(2), flowCase{[]int64{0}, 0, api.ErrCount})
	many := slices.Repeat([]api.Arc{{From: 1, To: 2, Cap: 3}}, 2000)
	tryFlows(t, network(2, many...),
		flowCase{slices.Repeat([]int64{2}, 2000), 4000, api.OK},
		flowCase{slices.Repeat([]int64{2}, 1999), 0, api.ErrCount},
		flowCase{slices.Repeat([]int64{2}, 2001), 0, api.ErrCount},
	)
}

// wrongNets have each of the faults that a network may have.
func wrongNets() []api.Net {
	arc := api.Arc{From: 1, To: 2, Cap: 5}
	return []api.Net{
		{},
		{Nodes: 1},
		{Nodes: 501, Source: 1, Sink: 2, Arcs: []api.Arc{arc}},
		{Nodes: least, Source: most, Sink: least, Arcs: []api.Arc{arc}},
		{Nodes: most, Source: 1, Sink: 2, Arcs: []api.Arc{arc}},
		{Nodes: 2, Source: 0, Sink: 2, Arcs: []api.Arc{arc}},
		{Nodes: 2, Source: 1, Sink: 3, Arcs: []api.Arc{arc}},
		{Nodes: 2, Source: 2, Sink: 2, Arcs: []api.Arc{arc}},
		network(2, slices.Repeat([]api.Arc{arc}, 2001)...),
		network(2, arc, api.Arc{From: 3, To: 1}),
		network(2, arc, api.Arc{From: 1, To: -1}),
		network(2, arc, api.Arc{From: 1, To: 2, Cap: -1}),
		network(2, arc, api.Arc{From: 1, To: 2, Cap: api.MaxSum}),
		network(2, arc, api.Arc{From: 1, To: 2, Cap: most}),
	}
}

// Whatever else is wrong, the network's own error is told first.
func TestF1WrongNetworks(t *testing.T) {
	for _, n := range wrongNets() {
		e := net.Check(n)
		if e == api.OK {
			t.Fatal(n)
		}
		for _, f := range [][]int64{nil, {0}, {-1}, {most, most}, make([]int64, len(n.Arcs)), slices.Repeat([]int64{-1}, len(n.Arcs)), slices.Repeat([]int64{1}, len(n.Arcs))} {
			tryFlows(t, n, flowCase{f, 0, e})
			for _, v := range []int{least, 0, 1, 2, 3, most} {
				tryExcess(t, n, f, v, 0, e)
			}
			tryAdd(t, n, f, nil, nil, e)
			tryAdd(t, n, nil, f, nil, e)
		}
	}
}

// Each has a fault, and at least one other that the promise names behind it.
func TestF1TheFirstError(t *testing.T) {
	tryFlows(t, sample(),
		flowCase{[]int64{-1}, 0, api.ErrCount},
		flowCase{[]int64{6, 0, 0, 0, 0, 0, 0, 0, 0}, 0, api.ErrCount},
		flowCase{[]int64{1, 0, 0, 0, 0, 0, 0}, 0, api.ErrCount},
		flowCase{[]int64{1, 0, 0, 0, 0, 0, 0, 1}, 0, api.ErrRange},
		flowCase{[]int64{1, 0, 0, 0, 0, 0, -1, 0}, 0, api.ErrRange},
		flowCase{[]int64{6, 3, 3, 2, 1, 0, 0, 0}, 0, api.ErrRange},
	)
}

func TestF2Excess(t *testing.T) {
	f := []int64{5, 3, 1, 2, 1, 7, 2, 0}
	for v, want := range []int64{0, -3, 1, -2, 4, 0} {
		if v != 0 {
			tryExcess(t, sample(), f, v, want, api.OK)
		}
	}
	for _, v := range []int{least, -500, -1, 0, 6, 7, 500, 1 << 32, 1<<32 + 1, most} {
		tryExcess(t, sample(), f, v, 0, api.ErrNode)
	}
	tryExcess(t, network(2), nil, 1, 0, api.OK)
	tryExcess(t, network(2), nil, 2, 0, api.OK)
	tryExcess(t, network(2), nil, 3, 0, api.ErrNode)
	tryExcess(t, network(500, api.Arc{From: 499, To: 500, Cap: 4}), []int64{3}, 500, 3, api.OK)
	tryExcess(t, network(500, api.Arc{From: 499, To: 500, Cap: 4}), []int64{3}, 499, -3, api.OK)
}

// Excess asks for amounts in range alone, not for a flow.
func TestF2TheFirstErrorOfExcess(t *testing.T) {
	for _, v := range []int{least, 0, 1, 5, 6, most} {
		tryExcess(t, sample(), nil, v, 0, api.ErrCount)
		tryExcess(t, sample(), []int64{-1}, v, 0, api.ErrCount)
		tryExcess(t, sample(), make([]int64, 9), v, 0, api.ErrCount)
		tryExcess(t, sample(), []int64{0, 0, 0, 0, 0, 0, 0, 1}, v, 0, api.ErrRange)
		tryExcess(t, sample(), []int64{1, 0, -1, 0, 0, 0, 0, 0}, v, 0, api.ErrRange)
	}
}

// The greatest amounts that there may be together stay in bounds.
func TestF2GreatAmounts(t *testing.T) {
	n := network(3, api.Arc{From: 1, To: 2, Cap: 1 << 61}, api.Arc{From: 2, To: 3, Cap: 1<<61 - 1})
	f := []int64{1 << 61, 1<<61 - 1}
	for v, want := range []int64{0, -1 << 61, 1, 1<<61 - 1} {
		if v != 0 {
			tryExcess(t, n, f, v, want, api.OK)
		}
	}
	tryFlows(t, n, flowCase{f, 0, api.ErrState}, flowCase{[]int64{1<<61 - 1, 1<<61 - 1}, 1<<61 - 1, api.OK})
	loop := network(2, api.Arc{From: 1, To: 1, Cap: api.MaxSum})
	tryFlows(t, loop, flowCase{[]int64{api.MaxSum}, 0, api.OK})
	tryExcess(t, loop, []int64{api.MaxSum}, 1, 0, api.OK)
	many := network(2, slices.Repeat([]api.Arc{{From: 2, To: 1, Cap: api.MaxSum / 2000}}, 2000)...)
	f = slices.Repeat([]int64{api.MaxSum / 2000}, 2000)
	tryFlows(t, many, flowCase{f, -(api.MaxSum / 2000 * 2000), api.OK})
	tryExcess(t, many, f, 1, api.MaxSum/2000*2000, api.OK)
}

func TestF2Add(t *testing.T) {
	n := sample()
	g, h := []int64{2, 2, 0, 0, 0, 4, 1, 0}, []int64{3, 1, 2, 2, 0, 5, 1, 0}
	tryAdd(t, n, g, h, []int64{5, 3, 2, 2, 0, 9, 2, 0}, api.OK)
	tryAdd(t, n, h, g, []int64{5, 3, 2, 2, 0, 9, 2, 0}, api.OK)
	tryAdd(t, n, g, make([]int64, 8), g, api.OK)
	tryAdd(t, n, h, h, nil, api.ErrRange)
	tryAdd(t, network(2), nil, []int64{}, nil, api.OK)
	for i, arc := range n.Arcs[5:7] {
		f, g := make([]int64, 8), make([]int64, 8)
		f[5], g[5], f[6] = 3, 6, 2
		tryAdd(t, n, f, g, []int64{0, 0, 0, 0, 0, 9, 2, 0}, api.OK)
		g[5+i] = arc.Cap - f[5+i] + 1
		tryAdd(t, n, f, g, nil, api.ErrRange)
	}
}

func TestF2AddGreatAmounts(t *testing.T) {
	n := network(2, api.Arc{From: 1, To: 2, Cap: api.MaxSum})
	tryAdd(t, n, []int64{1 << 61}, []int64{1<<61 - 1}, []int64{api.MaxSum}, api.OK)
	tryAdd(t, n, []int64{1 << 61}, []int64{1 << 61}, nil, api.ErrRange)
	tryAdd(t, n, []int64{api.MaxSum}, []int64{0}, []int64{api.MaxSum}, api.OK)
	tryAdd(t, n, []int64{api.MaxSum}, []int64{1}, nil, api.ErrRange)
	tryAdd(t, n, []int64{api.MaxSum}, []int64{api.MaxSum}, nil, api.ErrRange)
}

func TestF2TheFirstErrorOfAdd(t *testing.T) {
	n := sample()
	fine := []int64{5, 3, 2, 2, 0, 0, 0, 0}
	wrong := []flowCase{
		{nil, 0, api.ErrCount},
		{make([]int64, 9), 0, api.ErrCount},
		{[]int64{6, 0, 0, 0, 0, 0, 0, 0}, 0, api.ErrRange},
		{[]int64{5, 3, 1, 2, 0, 0, 0, 0}, 0, api.ErrState},
	}
	for _, first := range wrong {
		// Behind a flow that takes all that there is, so that both are above it together, too.
		tryAdd(t, n, fine, first.f, nil, first.e)
		tryAdd(t, n, first.f, fine, nil, first.e)
		for _, second := range wrong {
			tryAdd(t, n, first.f, second.f, nil, first.e)
		}
	}
}

// P3: nothing is written into, lists are new, and what lies behind a list's length is neither read nor written.
func TestF2NothingIsWrittenInto(t *testing.T) {
	arcs := append(sample().Arcs, api.Arc{From: 9, To: 9, Cap: -9})
	f, g := []int64{2, 2, 0, 0, 0, 4, 1, 0, -7}, []int64{3, 1, 2, 2, 0, 5, 1, 0, most}
	keptArcs, keptF, keptG := slices.Clone(arcs), slices.Clone(f), slices.Clone(g)
	n := api.Net{Nodes: 5, Source: 1, Sink: 4, Arcs: arcs[:8]}
	for range 2 {
		tryFlows(t, n, flowCase{f[:8], 1, api.OK}, flowCase{g[:8], 2, api.OK})
		tryExcess(t, n, f[:8], 4, 1, api.OK)
		sum, e := Add(n, f[:8], g[:8])
		if !slices.Equal(sum, []int64{5, 3, 2, 2, 0, 9, 2, 0}) || e != api.OK {
			t.Error(sum, e)
		}
		clear(sum)
		_ = append(sum, 5)
	}
	if !slices.Equal(arcs, keptArcs) || !slices.Equal(f, keptF) || !slices.Equal(g, keptG) {
		t.Error(arcs, f, g)
	}
	none := make([]int64, 8)
	for _, pair := range [][2][]int64{{f[:8], none}, {none, f[:8]}} {
		sum, _ := Add(n, pair[0], pair[1])
		sum[0] = 4
		if f[0] != 2 || none[0] != 0 {
			t.Error(f, none)
		}
	}
}

// rows tells all rows of amounts of -1 to top+1 for so many arcs.
func rows(count int, top int64) [][]int64 {
	all := [][]int64{nil}
	for range count {
		var next [][]int64
		for _, row := range all {
			for amount := int64(-1); amount <= top+1; amount++ {
				next = append(next, append(slices.Clone(row), amount))
			}
		}
		all = next
	}
	return all
}

// smallNets are networks of three nodes with three arcs at most, of all ends.
func smallNets() []api.Net {
	var l []api.Net
	arcs := [][]api.Arc{nil}
	for range 4 {
		var next [][]api.Arc
		for _, row := range arcs {
			l = append(l, api.Net{Nodes: 3, Source: 1, Sink: 3, Arcs: row}, api.Net{Nodes: 3, Source: 3, Sink: 2, Arcs: row})
			for ends := range 9 {
				arc := api.Arc{From: 1 + ends/3, To: 1 + ends%3, Cap: int64(1 + (ends+len(row))%2)}
				next = append(next, append(slices.Clone(row), arc))
			}
		}
		arcs = next
	}
	return l
}

// excessOf goes by the words, with numbers without bounds.
func excessOf(n api.Net, f []int64, v int) *big.Int {
	x := new(big.Int)
	for i, arc := range n.Arcs {
		if arc.To == v {
			x.Add(x, big.NewInt(f[i]))
		}
		if arc.From == v {
			x.Sub(x, big.NewInt(f[i]))
		}
	}
	return x
}

// errorOf goes by the words of F1, for a right network and as many amounts as arcs.
func errorOf(n api.Net, f []int64) api.Errno {
	for i, arc := range n.Arcs {
		if f[i] < 0 || f[i] > arc.Cap {
			return api.ErrRange
		}
	}
	for v := 1; v <= n.Nodes; v++ {
		if v != n.Source && v != n.Sink && excessOf(n, f, v).Sign() != 0 {
			return api.ErrState
		}
	}
	return api.OK
}

func TestF1AndF2ByTheWords(t *testing.T) {
	for _, n := range smallNets() {
		for _, f := range rows(len(n.Arcs), 2) {
			e := errorOf(n, f)
			c := flowCase{f: f, e: e}
			if e == api.OK {
				c.value = excessOf(n, f, n.Sink).Int64()
			}
			tryFlows(t, n, c)
			for v := 0; v <= n.Nodes+1; v++ {
				switch {
				case e == api.ErrRange:
					tryExcess(t, n, f, v, 0, api.ErrRange)
				case v == 0 || v > n.Nodes:
					tryExcess(t, n, f, v, 0, api.ErrNode)
				default:
					tryExcess(t, n, f, v, excessOf(n, f, v).Int64(), api.OK)
				}
			}
		}
	}
}

// addOf goes by the words of F2.
func addOf(n api.Net, f, g []int64) ([]int64, api.Errno) {
	if e := errorOf(n, f); e != api.OK {
		return nil, e
	}
	if e := errorOf(n, g); e != api.OK {
		return nil, e
	}
	var l []int64
	for i, arc := range n.Arcs {
		l = append(l, f[i]+g[i])
		if l[i] > arc.Cap {
			return nil, api.ErrRange
		}
	}
	return l, api.OK
}

func TestF2AddByTheWords(t *testing.T) {
	for _, n := range smallNets() {
		if len(n.Arcs) > 2 {
			continue
		}
		all := rows(len(n.Arcs), 2)
		for _, f := range all {
			for _, g := range all {
				want, e := addOf(n, f, g)
				tryAdd(t, n, f, g, want, e)
			}
		}
	}
}

// bounds are what can come in to the sink, and go out of the source.
func bounds(n api.Net) (int64, int64) {
	var in, out int64
	for _, arc := range n.Arcs {
		if arc.To == n.Sink {
			in += arc.Cap
		}
		if arc.From == n.Source {
			out += arc.Cap
		}
	}
	return in, out
}

func tryFollows(t *testing.T, n api.Net, f []int64) {
	t.Helper()
	var all int64
	for v := 1; v <= n.Nodes; v++ {
		x, e := Excess(n, f, v)
		if e != api.OK {
			t.Fatal(n, f, e)
		}
		all += x
	}
	if all != 0 {
		t.Errorf("%v, %d: all excesses are %d together", n, f, all)
	}
	value, e := Value(n, f)
	if e != api.OK {
		return
	}
	tryExcess(t, n, f, n.Source, -value, api.OK)
	tryExcess(t, n, f, n.Sink, value, api.OK)
	if in, out := bounds(n); value > in || value > out {
		t.Errorf("%v, %d is worth %d; at most %d can come in, and %d go out", n, f, value, in, out)
	}
}

func TestF3WhatFollows(t *testing.T) {
	for _, n := range smallNets() {
		for _, f := range rows(len(n.Arcs), 2) {
			if errorOf(n, f) != api.ErrRange {
				tryFollows(t, n, f)
			}
		}
	}
	tryFollows(t, sample(), []int64{5, 3, 2, 2, 0, 9, 0, 0})
	tryFollows(t, sample(), []int64{5, 3, 1, 2, 1, 7, 2, 0})
	tryFollows(t, network(2, api.Arc{From: 1, To: 2, Cap: api.MaxSum}), []int64{api.MaxSum})
	tryFollows(t, network(2, api.Arc{From: 2, To: 1, Cap: api.MaxSum}), []int64{api.MaxSum})
}

// Two flows are worth together what each of them is worth.
func TestF3ASumIsWorthBoth(t *testing.T) {
	for _, n := range smallNets() {
		if len(n.Arcs) > 2 {
			continue
		}
		all := rows(len(n.Arcs), 2)
		for _, f := range all {
			for _, g := range all {
				sum, e := Add(n, f, g)
				if e != api.OK {
					continue
				}
				a, _ := Value(n, f)
				b, _ := Value(n, g)
				tryFlows(t, n, flowCase{sum, a + b, api.OK})
			}
		}
	}
}
