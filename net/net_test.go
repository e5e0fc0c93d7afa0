package net

import (
	"math"
	"math/big"
	"slices"
	"testing"

	"raceway/api"
)

const (
	most  = math.MaxInt64
	least = math.MinInt64
)

// network has its source at 1 and its sink at its last node.
func network(nodes int, arcs ...api.Arc) api.Net {
	return api.Net{Nodes: nodes, Source: 1, Sink: nodes, Arcs: arcs}
}

// sample is right: it has a loop, arcs beside one another, arcs without a capacity, into the source, out of the sink, and a node without arcs.
func sample() api.Net {
	return network(5,
		api.Arc{From: 1, To: 2, Cap: 5},
		api.Arc{From: 2, To: 2, Cap: 7},
		api.Arc{From: 2, To: 5, Cap: 4},
		api.Arc{From: 1, To: 2, Cap: 5},
		api.Arc{From: 3, To: 1, Cap: 0},
		api.Arc{From: 5, To: 3, Cap: 1},
		api.Arc{From: 2, To: 1, Cap: 9},
	)
}

// crooked tells networks of which none is right.
func crooked() []api.Net {
	return []api.Net{
		{},
		{Nodes: least, Source: least, Sink: most},
		{Nodes: 2, Source: 7, Sink: 7, Arcs: []api.Arc{{From: 9, To: -4, Cap: -1}, {From: most, To: least, Cap: least}}},
		{Nodes: -1, Source: 1, Sink: 2, Arcs: []api.Arc{{From: 0, To: 0, Cap: most}, {}}},
		network(2, api.Arc{From: 1, To: 3, Cap: 5}),
		network(3, slices.Repeat([]api.Arc{{From: 1, To: 2, Cap: 1}}, api.MaxArcs+1)...),
	}
}

type checkCase struct {
	n api.Net
	e api.Errno
}

func tryChecks(t *testing.T, cases []checkCase) {
	t.Helper()
	for _, c := range cases {
		if e := Check(c.n); e != c.e {
			t.Errorf("Check of %d nodes, %d to %d, %d arcs, from %v on: %d; want %d", c.n.Nodes, c.n.Source, c.n.Sink, len(c.n.Arcs), c.n.Arcs[:min(3, len(c.n.Arcs))], e, c.e)
		}
	}
}

func TestA1RightNetworks(t *testing.T) {
	tryChecks(t, []checkCase{
		{sample(), api.OK},
		{network(2), api.OK},
		{network(2, api.Arc{From: 1, To: 2, Cap: 0}), api.OK},
		{network(2, api.Arc{From: 1, To: 1, Cap: 5}, api.Arc{From: 2, To: 2, Cap: 5}), api.OK},
		{network(api.MaxNodes, api.Arc{From: 500, To: 500, Cap: 1}), api.OK},
		{api.Net{Nodes: 500, Source: 500, Sink: 499, Arcs: []api.Arc{}}, api.OK},
	})
}

func TestA1Nodes(t *testing.T) {
	for _, nodes := range []int{least, -500, -1, 0, 1, 501, 502, 1 << 32, 1<<32 + 2, most} {
		tryChecks(t, []checkCase{{api.Net{Nodes: nodes, Source: 1, Sink: 2}, api.ErrRange}})
	}
	for nodes := 2; nodes <= 500; nodes++ {
		tryChecks(t, []checkCase{{network(nodes), api.OK}})
	}
}

func TestA1SourceAndSink(t *testing.T) {
	for _, v := range []int{least, -1, 0, 4, 5, 500, 1<<32 + 1, most} {
		tryChecks(t, []checkCase{
			{api.Net{Nodes: 3, Source: v, Sink: 2}, api.ErrNode},
			{api.Net{Nodes: 3, Source: 2, Sink: v}, api.ErrNode},
			{api.Net{Nodes: 3, Source: v, Sink: v}, api.ErrNode},
		})
	}
	for v := 1; v <= 3; v++ {
		tryChecks(t, []checkCase{
			{api.Net{Nodes: 3, Source: v, Sink: v}, api.ErrSame},
			{api.Net{Nodes: 3, Source: v, Sink: v%3 + 1}, api.OK},
		})
	}
}

func TestA1HowManyArcs(t *testing.T) {
	for _, c := range []struct {
		count int
		e     api.Errno
	}{{0, api.OK}, {1, api.OK}, {1999, api.OK}, {2000, api.OK}, {2001, api.ErrCount}, {1 << 20, api.ErrCount}} {
		arcs := slices.Repeat([]api.Arc{{From: 1, To: 2, Cap: 1}}, c.count)
		tryChecks(t, []checkCase{{network(2, arcs...), c.e}})
	}
}

func TestA1EndsOfArcs(t *testing.T) {
	for _, v := range []int{least, -1, 0, 4, 500, 1<<32 + 1, most} {
		tryChecks(t, []checkCase{
			{network(3, api.Arc{From: v, To: 2, Cap: 5}), api.ErrNode},
			{network(3, api.Arc{From: 2, To: v, Cap: 5}), api.ErrNode},
			{network(3, api.Arc{From: v, To: v, Cap: 5}), api.ErrNode},
			{network(3, api.Arc{From: 1, To: 3, Cap: 5}, api.Arc{From: 1, To: v, Cap: 5}), api.ErrNode},
		})
	}
	for u := 1; u <= 3; u++ {
		for v := 1; v <= 3; v++ {
			tryChecks(t, []checkCase{{network(3, api.Arc{From: u, To: v, Cap: 5}), api.OK}})
		}
	}
}

// line is arcs from 1 to 2 of these capacities.
func line(caps ...int64) []api.Arc {
	var arcs []api.Arc
	for _, c := range caps {
		arcs = append(arcs, api.Arc{From: 1, To: 2, Cap: c})
	}
	return arcs
}

func TestA1Capacities(t *testing.T) {
	for _, c := range []struct {
		caps []int64
		e    api.Errno
	}{
		{[]int64{0}, api.OK},
		{[]int64{-1}, api.ErrRange},
		{[]int64{least}, api.ErrRange},
		{[]int64{3, 0, -1}, api.ErrRange},
		{[]int64{api.MaxSum}, api.OK},
		{[]int64{api.MaxSum + 1}, api.ErrSum},
		{[]int64{most}, api.ErrSum},
		{[]int64{api.MaxSum, 0, 0}, api.OK},
		{[]int64{0, api.MaxSum, 0}, api.OK},
		{[]int64{api.MaxSum, 1}, api.ErrSum},
		{[]int64{1, api.MaxSum}, api.ErrSum},
		{[]int64{1, api.MaxSum - 1}, api.OK},
		{[]int64{1 << 61, 1<<61 - 1}, api.OK},
		{[]int64{1 << 61, 1 << 61}, api.ErrSum},
		{[]int64{1 << 61, 1<<61 - 1, 0, 1}, api.ErrSum},
		{[]int64{api.MaxSum, api.MaxSum}, api.ErrSum},
		// What is added here goes round, once below 0, and once to a small number.
		{[]int64{1, most}, api.ErrSum},
		{[]int64{api.MaxSum, most, most}, api.ErrSum},
		{[]int64{most, most, 3}, api.ErrSum},
		{slices.Repeat([]int64{api.MaxSum / 2000}, 2000), api.OK},
		{slices.Repeat([]int64{api.MaxSum/2000 + 1}, 2000), api.ErrSum},
	} {
		tryChecks(t, []checkCase{{network(2, line(c.caps...)...), c.e}})
	}
}

// A loop, and an arc into the source, count to the sum as all others do.
func TestA1SumOfAllArcs(t *testing.T) {
	tryChecks(t, []checkCase{
		{network(3, api.Arc{From: 2, To: 2, Cap: api.MaxSum}, api.Arc{From: 1, To: 3, Cap: 1}), api.ErrSum},
		{network(3, api.Arc{From: 3, To: 1, Cap: api.MaxSum}, api.Arc{From: 2, To: 2, Cap: 1}), api.ErrSum},
		{network(3, api.Arc{From: 3, To: 1, Cap: api.MaxSum - 1}, api.Arc{From: 2, To: 2, Cap: 1}), api.OK},
	})
}

// Each network has a fault, and at least one other that the promise names behind it.
func TestA1TheFirstErrorOfANetwork(t *testing.T) {
	many := slices.Repeat([]api.Arc{{From: 0, To: 9, Cap: -1}}, 2001)
	tryChecks(t, []checkCase{
		{api.Net{Nodes: 1, Source: 1, Sink: 1, Arcs: many}, api.ErrRange},
		{api.Net{Nodes: 1, Source: 0, Sink: 2}, api.ErrRange},
		{api.Net{Nodes: 501, Source: 0, Sink: 502, Arcs: many}, api.ErrRange},
		{api.Net{Nodes: 501, Source: 501, Sink: 501}, api.ErrRange},
		{api.Net{Nodes: 2, Source: 3, Sink: 3, Arcs: many}, api.ErrNode},
		{api.Net{Nodes: 2, Source: 1, Sink: 0, Arcs: many[:1]}, api.ErrNode},
		{api.Net{Nodes: 2, Source: 1, Sink: 1, Arcs: many}, api.ErrSame},
		{api.Net{Nodes: 2, Source: 1, Sink: 1, Arcs: line(-1)}, api.ErrSame},
		{api.Net{Nodes: 2, Source: 1, Sink: 2, Arcs: many}, api.ErrCount},
		{network(2, slices.Repeat(line(most), 2001)...), api.ErrCount},
	})
}

func TestA1TheFirstArcThatIsWrong(t *testing.T) {
	node, below := api.Arc{From: 1, To: 3, Cap: 5}, api.Arc{From: 1, To: 2, Cap: -1}
	sum, fine := api.Arc{From: 1, To: 2, Cap: most}, api.Arc{From: 1, To: 2, Cap: 5}
	tryChecks(t, []checkCase{
		{network(2, api.Arc{From: 0, To: 1, Cap: -1}), api.ErrNode},
		{network(2, api.Arc{From: 1, To: 3, Cap: most}), api.ErrNode},
		{network(2, line(api.MaxSum, -1)...), api.ErrRange},
		{network(2, fine, node, below), api.ErrNode},
		{network(2, fine, node, sum), api.ErrNode},
		{network(2, fine, below, node), api.ErrRange},
		{network(2, fine, below, sum), api.ErrRange},
		{network(2, fine, sum, node), api.ErrSum},
		{network(2, fine, sum, below), api.ErrSum},
		{network(2, append(slices.Repeat([]api.Arc{fine}, 1999), node)...), api.ErrNode},
		{network(2, append(slices.Repeat([]api.Arc{fine}, 1999), below)...), api.ErrRange},
		{network(2, append(slices.Repeat([]api.Arc{fine}, 1999), sum)...), api.ErrSum},
	})
}

// rows tells all rows of at most n of these arcs.
func rows(arcs []api.Arc, n int) [][]api.Arc {
	all, last := [][]api.Arc{nil}, [][]api.Arc{nil}
	for range n {
		var next [][]api.Arc
		for _, row := range last {
			for _, arc := range arcs {
				next = append(next, append(slices.Clone(row), arc))
			}
		}
		all, last = append(all, next...), next
	}
	return all
}

// someArcs are right and wrong ones of a network of two nodes.
func someArcs() []api.Arc {
	var arcs []api.Arc
	for _, ends := range [][2]int{{1, 2}, {2, 1}, {2, 2}, {0, 1}, {1, 3}} {
		for _, c := range []int64{0, 1, api.MaxSum, most, -1} {
			arcs = append(arcs, api.Arc{From: ends[0], To: ends[1], Cap: c})
		}
	}
	return arcs
}

// errorOf goes over the arcs of a network of two nodes by the promise's words, with numbers without bounds.
func errorOf(arcs []api.Arc) api.Errno {
	sum := new(big.Int)
	for _, arc := range arcs {
		for _, v := range []int{arc.From, arc.To} {
			if v != 1 && v != 2 {
				return api.ErrNode
			}
		}
		if arc.Cap < 0 {
			return api.ErrRange
		}
		if sum.Add(sum, big.NewInt(arc.Cap)).Cmp(big.NewInt(api.MaxSum)) > 0 {
			return api.ErrSum
		}
	}
	return api.OK
}

func TestA1ByTheWords(t *testing.T) {
	for _, arcs := range rows(someArcs(), 3) {
		tryChecks(t, []checkCase{{network(2, arcs...), errorOf(arcs)}})
	}
}

func tryNumbers(t *testing.T, n api.Net, v int, out, in []int) {
	t.Helper()
	if l := Out(n, v); !slices.Equal(l, out) {
		t.Errorf("Out(%v, %d): %d; want %d", n, v, l, out)
	}
	if l := In(n, v); !slices.Equal(l, in) {
		t.Errorf("In(%v, %d): %d; want %d", n, v, l, in)
	}
}

func TestA2OutAndIn(t *testing.T) {
	n := sample()
	tryNumbers(t, n, 1, []int{0, 3}, []int{4, 6})
	tryNumbers(t, n, 2, []int{1, 2, 6}, []int{0, 1, 3})
	tryNumbers(t, n, 3, []int{4}, []int{5})
	tryNumbers(t, n, 4, nil, nil)
	tryNumbers(t, n, 5, []int{5}, []int{2})
	for _, v := range []int{least, -1, 0, 6, 500, 1<<32 + 1, most} {
		tryNumbers(t, n, v, nil, nil)
	}
	tryNumbers(t, network(2), 1, nil, nil)
}

// An arc goes from where it says, whatever else is wrong.
func TestA2OutAndInOfWrongNetworks(t *testing.T) {
	n := crooked()[2]
	tryNumbers(t, n, 9, []int{0}, nil)
	tryNumbers(t, n, -4, nil, []int{0})
	tryNumbers(t, n, most, []int{1}, nil)
	tryNumbers(t, n, least, nil, []int{1})
	tryNumbers(t, n, 1, nil, nil)
	tryNumbers(t, api.Net{}, 0, nil, nil)
}

func TestA2OutAndInByTheWords(t *testing.T) {
	for _, n := range append(crooked(), sample()) {
		for v := -5; v <= 10; v++ {
			var out, in []int
			for i := range n.Arcs {
				if n.Arcs[i].From == v {
					out = append(out, i)
				}
				if n.Arcs[i].To == v {
					in = append(in, i)
				}
			}
			tryNumbers(t, n, v, out, in)
		}
	}
}

func TestA2OutAndInOfManyArcs(t *testing.T) {
	const count = 1 << 18
	n := network(2, slices.Repeat(line(1), count)...)
	for _, l := range [][]int{Out(n, 1), In(n, 2)} {
		if len(l) != count || l[0] != 0 || l[count-1] != count-1 || !slices.IsSorted(l) {
			t.Error(len(l))
		}
	}
}

func trySame(t *testing.T, a, b api.Net, want bool) {
	t.Helper()
	if Same(a, b) != want || Same(b, a) != want {
		t.Errorf("Same(%v, %v): %t, %t; want %t", a, b, Same(a, b), Same(b, a), want)
	}
}

// others tells networks each of which is unlike n in one thing.
func others(n api.Net) []api.Net {
	l := []api.Net{
		{Nodes: n.Nodes + 1, Source: n.Source, Sink: n.Sink, Arcs: n.Arcs},
		{Nodes: n.Nodes, Source: n.Source + 1, Sink: n.Sink, Arcs: n.Arcs},
		{Nodes: n.Nodes, Source: n.Source, Sink: n.Sink - 1, Arcs: n.Arcs},
		{Nodes: n.Nodes, Source: n.Source, Sink: n.Sink, Arcs: append(slices.Clone(n.Arcs), api.Arc{})},
	}
	for i, arc := range n.Arcs {
		for _, other := range []api.Arc{
			{From: arc.From + 1, To: arc.To, Cap: arc.Cap},
			{From: arc.From, To: arc.To + 1, Cap: arc.Cap},
			{From: arc.From, To: arc.To, Cap: arc.Cap + 1},
			{From: arc.From, To: arc.To, Cap: arc.Cap + 1<<32},
		} {
			changed := n
			changed.Arcs = slices.Clone(n.Arcs)
			changed.Arcs[i] = other
			l = append(l, changed)
		}
		without := n
		without.Arcs = slices.Delete(slices.Clone(n.Arcs), i, i+1)
		l = append(l, without)
	}
	return l
}

func TestA2Same(t *testing.T) {
	for _, n := range append(crooked()[:5], sample(), network(2)) {
		again := n
		again.Arcs = append(make([]api.Arc, 0, 50), n.Arcs...)
		trySame(t, n, n, true)
		trySame(t, n, again, true)
		for _, other := range others(n) {
			trySame(t, n, other, false)
		}
	}
	trySame(t, api.Net{Nodes: 2, Source: 1, Sink: 2}, api.Net{Nodes: 2, Source: 2, Sink: 1}, false)
	trySame(t, network(2), network(2, []api.Arc{}...), true)
	trySame(t, api.Net{Arcs: nil}, api.Net{Arcs: []api.Arc{}}, true)
}

func TestA2SameHoldsToTheOrder(t *testing.T) {
	a, b := api.Arc{From: 1, To: 2, Cap: 1}, api.Arc{From: 2, To: 1, Cap: 1}
	trySame(t, network(2, a, b), network(2, b, a), false)
	trySame(t, network(2, a, a, b), network(2, a, b, b), false)
	trySame(t, network(2, a, b, a), network(2, a, b, a), true)
}

func TestA2Turn(t *testing.T) {
	want := api.Net{Nodes: 5, Source: 5, Sink: 1, Arcs: []api.Arc{
		{From: 2, To: 1, Cap: 5},
		{From: 2, To: 2, Cap: 7},
		{From: 5, To: 2, Cap: 4},
		{From: 2, To: 1, Cap: 5},
		{From: 1, To: 3, Cap: 0},
		{From: 3, To: 5, Cap: 1},
		{From: 1, To: 2, Cap: 9},
	}}
	if turned := Turn(sample()); !Same(turned, want) {
		t.Error(turned)
	}
	if turned := Turn(network(2)); !Same(turned, api.Net{Nodes: 2, Source: 2, Sink: 1}) {
		t.Error(turned)
	}
}

// A wrong network is turned by the same words.
func TestA2TurnOfWrongNetworks(t *testing.T) {
	for _, n := range crooked() {
		turned := Turn(n)
		if turned.Nodes != n.Nodes || turned.Source != n.Sink || turned.Sink != n.Source || len(turned.Arcs) != len(n.Arcs) {
			t.Fatal(turned)
		}
		for i, arc := range n.Arcs {
			if turned.Arcs[i].From != arc.To || turned.Arcs[i].To != arc.From || turned.Arcs[i].Cap != arc.Cap {
				t.Error(arc, turned.Arcs[i])
			}
		}
	}
}

func TestA2Copy(t *testing.T) {
	for _, n := range append(crooked(), sample(), network(2)) {
		c := Copy(n)
		if c.Nodes != n.Nodes || c.Source != n.Source || c.Sink != n.Sink || !slices.Equal(c.Arcs, n.Arcs) {
			t.Errorf("%v; want %v", c, n)
		}
	}
}

// P3: neither of the two sees what is written into the other, nor what is laid behind its arcs.
func TestA2ArcsOfItsOwn(t *testing.T) {
	for _, f := range []func(api.Net) api.Net{Copy, Turn} {
		for _, count := range []int{0, 1, 7} {
			n := sample()
			all := slices.Clone(n.Arcs)
			n.Arcs = n.Arcs[:count]
			made := f(n)
			kept := slices.Clone(made.Arcs)
			for i := range n.Arcs {
				n.Arcs[i] = api.Arc{From: 4, To: 4, Cap: 4}
			}
			if !slices.Equal(made.Arcs, kept) {
				t.Error(made.Arcs, kept)
			}
			copy(n.Arcs, all)
			for i := range made.Arcs {
				made.Arcs[i] = api.Arc{}
			}
			_ = append(made.Arcs, api.Arc{From: 3, To: 3, Cap: 3})
			if whole := n.Arcs[:len(all)]; !slices.Equal(whole, all) {
				t.Error(whole, all)
			}
		}
	}
}

// P3: no call writes into what it is handed, or reads what lies behind its arcs.
func TestA2NothingIsWrittenInto(t *testing.T) {
	all := slices.Clone(sample().Arcs)
	all[6] = api.Arc{From: 1, To: 2, Cap: -1}
	kept := slices.Clone(all)
	n := network(5, all[:6]...)
	for range 2 {
		tryChecks(t, []checkCase{{n, api.OK}})
		tryNumbers(t, n, 1, []int{0, 3}, []int{4})
		trySame(t, n, network(5, kept[:6]...), true)
		if made := len(Turn(n).Arcs) + len(Copy(n).Arcs); made != 12 {
			t.Error(made)
		}
	}
	if n.Nodes != 5 || n.Source != 1 || n.Sink != 5 || len(n.Arcs) != 6 || !slices.Equal(all, kept) {
		t.Error(n, all)
	}
}

// P3: lists that are answered are new.
func TestA2ListsAreNew(t *testing.T) {
	n := sample()
	for _, f := range []func(api.Net, int) []int{Out, In} {
		first, kept := f(n, 2), f(n, 2)
		want := slices.Clone(kept)
		clear(first)
		if !slices.Equal(kept, want) || !slices.Equal(f(n, 2), want) {
			t.Error(kept, f(n, 2), want)
		}
	}
}

func TestA3TurnedTwice(t *testing.T) {
	for _, n := range append(crooked(), sample(), network(2), network(api.MaxNodes, line(1, 2, 3)...)) {
		if back := Turn(Turn(n)); !Same(back, n) {
			t.Errorf("%v; want %v", back, n)
		}
	}
	if n := sample(); Same(Turn(n), n) {
		t.Error(Turn(n))
	}
}

func TestA3ARightOneIsRightTurned(t *testing.T) {
	for _, n := range []api.Net{
		sample(),
		network(2),
		network(api.MaxNodes, api.Arc{From: 1, To: 500, Cap: api.MaxSum}),
		network(2, slices.Repeat(line(api.MaxSum/2000), 2000)...),
	} {
		tryChecks(t, []checkCase{{n, api.OK}, {Turn(n), api.OK}, {Turn(Turn(n)), api.OK}})
	}
}

// By the words of A1 and A2 a wrong one has the same error turned: no fault knows a direction.
func TestA3ByTheWords(t *testing.T) {
	for _, arcs := range rows(someArcs(), 2) {
		n := network(2, arcs...)
		tryChecks(t, []checkCase{{Turn(n), errorOf(arcs)}})
		if back := Turn(Turn(n)); !Same(back, n) {
			t.Errorf("%v; want %v", back, n)
		}
		for v := range 4 {
			tryNumbers(t, Turn(n), v, In(n, v), Out(n, v))
		}
	}
}
