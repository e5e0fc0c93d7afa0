package decomp

import (
	"math"
	"math/big"
	"slices"
	"testing"

	"raceway/api"
	"raceway/dinic"
	"raceway/flow"
	"raceway/net"
)

const (
	most   = math.MaxInt64
	lowest = math.MinInt64
)

// network has its source at 1 and its sink at its last node.
func network(nodes int, arcs ...api.Arc) api.Net {
	return api.Net{Nodes: nodes, Source: 1, Sink: nodes, Arcs: arcs}
}

func arc(from, to int, capacity int64) api.Arc { return api.Arc{From: from, To: to, Cap: capacity} }

// sample has arcs beside one another, loops, arcs into the source and out of the sink, and one without a capacity. Its source is 3, its sink 2; 6 has no arcs.
func sample() api.Net {
	return api.Net{Nodes: 6, Source: 3, Sink: 2, Arcs: []api.Arc{
		arc(3, 1, 9), arc(1, 4, 9), arc(4, 1, 9), arc(4, 2, 9), arc(2, 3, 9), arc(5, 5, 9), arc(3, 2, 9),
		arc(3, 1, 9), arc(1, 3, 9), arc(2, 4, 9), arc(2, 2, 9), arc(3, 3, 9), arc(1, 4, 9), arc(4, 4, 0),
	}}
}

// sampleFlow has these amounts on these arcs of the sample, in turn, and nothing on the others.
func sampleFlow(arcsAndAmounts ...int) []int64 {
	f := make([]int64, len(sample().Arcs))
	for pair := range slices.Chunk(arcsAndAmounts, 2) {
		f[pair[0]] = int64(pair[1])
	}
	return f
}

// beside are arcs from 1 to 2, of these capacities.
func beside(capacities ...int64) api.Net {
	n := network(2)
	for _, c := range capacities {
		n.Arcs = append(n.Arcs, arc(1, 2, c))
	}
	return n
}

// count is from, from + 1, and so on, to to.
func count(from, to int) []int {
	var l []int
	for v := from; v <= to; v++ {
		l = append(l, v)
	}
	return l
}

func path(amount int64, arcs ...int) Item  { return Item{Path, arcs, amount} }
func back(amount int64, arcs ...int) Item  { return Item{Back, arcs, amount} }
func cycle(amount int64, arcs ...int) Item { return Item{Cycle, arcs, amount} }

func sameItems(a, b []Item) bool {
	return slices.EqualFunc(a, b, func(x, y Item) bool {
		return x.Kind == y.Kind && x.Amount == y.Amount && slices.Equal(x.Arcs, y.Arcs)
	})
}

// trySplit takes a flow, and the items that Split must tell of it.
func trySplit(t *testing.T, n api.Net, f []int64, want ...Item) {
	t.Helper()
	got, e := Split(n, f)
	if !sameItems(got, want) || e != api.OK {
		t.Errorf("Split(%v, %d): %v, %d; want %v", n, f, got, e, want)
	}
	tryWhatFollows(t, n, f, got)
}

func tryNoSplit(t *testing.T, n api.Net, f []int64, want api.Errno) {
	t.Helper()
	if got, e := Split(n, f); len(got) != 0 || e != want {
		t.Errorf("Split of %d nodes, %d arcs, %d amounts: %v, %d; want %d", n.Nodes, len(n.Arcs), len(f), got, e, want)
	}
}

func trySum(t *testing.T, n api.Net, l []Item, want ...int64) {
	t.Helper()
	if got, e := Sum(n, l); !slices.Equal(got, want) || e != api.OK {
		t.Errorf("Sum(%v, %v): %d, %d; want %d", n, l, got, e, want)
	}
}

func tryNoSum(t *testing.T, n api.Net, want api.Errno, l ...Item) {
	t.Helper()
	if got, e := Sum(n, l); len(got) != 0 || e != want {
		t.Errorf("Sum of %d nodes, %d arcs, %d items: %d, %d; want %d", n.Nodes, len(n.Arcs), len(l), got, e, want)
	}
}

// tryWhatFollows holds the items of a flow against U3.
func tryWhatFollows(t *testing.T, n api.Net, f []int64, l []Item) {
	t.Helper()
	trySum(t, n, l, f...)
	if len(l) > len(n.Arcs) {
		t.Errorf("Split(%v, %d): %d items", n, f, len(l))
	}
	along := map[byte]int64{}
	for _, x := range l {
		if !isItemOf(n, x) {
			t.Errorf("Split(%v, %d): %v is no item", n, f, x)
		}
		along[x.Kind] += x.Amount
	}
	value, _ := flow.Value(n, f)
	if along[Path] != max(value, 0) || along[Back] != max(-value, 0) {
		t.Errorf("Split(%v, %d): %d along paths, %d back; want a value of %d", n, f, along[Path], along[Back], value)
	}
}

// isItemOf goes by the words of the document.
func isItemOf(n api.Net, x Item) bool {
	if len(x.Arcs) == 0 || x.Amount <= 0 {
		return false
	}
	var begins []int
	for k, i := range x.Arcs {
		if i < 0 || i >= len(n.Arcs) || k > 0 && n.Arcs[x.Arcs[k-1]].To != n.Arcs[i].From {
			return false
		}
		if slices.Contains(begins, n.Arcs[i].From) {
			return false
		}
		begins = append(begins, n.Arcs[i].From)
	}
	from, to := begins[0], n.Arcs[x.Arcs[len(x.Arcs)-1]].To
	switch x.Kind {
	case 'p':
		return from == n.Source && to == n.Sink && !slices.Contains(begins, to)
	case 'b':
		return from == n.Sink && to == n.Source && !slices.Contains(begins, to)
	case 'c':
		return from == to
	}
	return false
}

// sumOf goes by the words of the document, of a right network, with numbers without bounds.
func sumOf(n api.Net, l []Item) ([]int64, api.Errno) {
	sums := make([]big.Int, len(n.Arcs))
	for _, x := range l {
		if !isItemOf(n, x) {
			return nil, api.ErrArg
		}
		for _, i := range x.Arcs {
			sums[i].Add(&sums[i], big.NewInt(x.Amount))
		}
	}
	var f []int64
	for i := range sums {
		if sums[i].Cmp(big.NewInt(n.Arcs[i].Cap)) > 0 {
			return nil, api.ErrRange
		}
		f = append(f, sums[i].Int64())
	}
	return f, api.OK
}

// splitOf goes by the words of the document, of a flow.
func splitOf(n api.Net, f []int64) []Item {
	left := slices.Clone(f)
	var l []Item
	for {
		first := slices.IndexFunc(left, func(amount int64) bool { return amount > 0 })
		if first < 0 {
			return l
		}
		x := Item{Kind: Cycle, Amount: most}
		at, end := n.Arcs[first].From, 0
		value, _ := flow.Value(n, left)
		if value > 0 {
			x, at, end = Item{Kind: Path, Amount: value}, n.Source, n.Sink
		}
		if value < 0 {
			x, at, end = Item{Kind: Back, Amount: -value}, n.Sink, n.Source
		}
		met := []int{at}
		for x.Arcs == nil || at != end {
			on := slices.IndexFunc(net.Out(n, at), func(i int) bool { return left[i] > 0 })
			i := net.Out(n, at)[on]
			x.Arcs, at = append(x.Arcs, i), n.Arcs[i].To
			if place := slices.Index(met, at); place >= 0 {
				x = Item{Cycle, x.Arcs[place:], most}
				break
			}
			met = append(met, at)
		}
		for _, i := range x.Arcs {
			x.Amount = min(x.Amount, left[i])
		}
		for _, i := range x.Arcs {
			left[i] -= x.Amount
		}
		l = append(l, x)
	}
}

func tryWordsOfSplit(t *testing.T, n api.Net, f []int64) {
	t.Helper()
	trySplit(t, n, f, splitOf(n, f)...)
}

func tryWordsOfSum(t *testing.T, n api.Net, l ...Item) {
	t.Helper()
	want, e := sumOf(n, l)
	if e != api.OK {
		tryNoSum(t, n, e, l...)
		return
	}
	trySum(t, n, l, want...)
}

func TestU1Example(t *testing.T) {
	n := network(2, arc(1, 2, 5), arc(2, 1, 2))
	trySplit(t, n, []int64{5, 2}, path(3, 0), cycle(2, 0, 1))
	if Path != 'p' || Back != 'b' || Cycle != 'c' {
		t.Error(Path, Back, Cycle)
	}
}

func TestU1FlowsOfNothing(t *testing.T) {
	trySplit(t, sample(), sampleFlow())
	trySplit(t, network(2, arc(1, 1, 0), arc(1, 2, 0), arc(2, 1, 0)), []int64{0, 0, 0})
	trySplit(t, network(2, arc(1, 1, 5), arc(1, 2, 5), arc(2, 1, 5)), []int64{0, 0, 0})
	for _, none := range [][]int64{nil, {}} {
		trySplit(t, network(2), none)
		trySplit(t, network(500), none)
		trySplit(t, api.Net{Nodes: 500, Source: 500, Sink: 1, Arcs: []api.Arc{}}, none)
	}
}

// The first arc that begins in a node is taken as long as it has an amount left, and then the next one.
func TestU1Paths(t *testing.T) {
	n := sample()
	trySplit(t, n, sampleFlow(0, 3, 1, 3, 3, 3), path(3, 0, 1, 3))
	trySplit(t, n, sampleFlow(6, 9), path(9, 6))
	trySplit(t, n, sampleFlow(6, 1, 0, 3, 12, 3, 3, 3), path(3, 0, 12, 3), path(1, 6))
	trySplit(t, n, sampleFlow(0, 2, 7, 3, 1, 4, 12, 1, 3, 5), path(2, 0, 1, 3), path(2, 7, 1, 3), path(1, 7, 12, 3))
	trySplit(t, beside(5, 0, 3, 5), []int64{2, 0, 3, 1}, path(2, 0), path(3, 2), path(1, 3))
	forked := network(5, arc(1, 3, 4), arc(1, 2, 4), arc(3, 5, 1), arc(2, 5, 4), arc(3, 4, 4), arc(4, 5, 4))
	trySplit(t, forked, []int64{3, 2, 1, 2, 2, 2}, path(1, 0, 2), path(2, 0, 4, 5), path(2, 1, 3))
}

func TestU1PathsBack(t *testing.T) {
	n := sample()
	trySplit(t, n, sampleFlow(4, 5), back(5, 4))
	trySplit(t, n, sampleFlow(9, 4, 2, 4, 8, 4), back(4, 9, 2, 8))
	trySplit(t, n, sampleFlow(9, 4, 2, 4, 8, 4, 4, 1), back(1, 4), back(4, 9, 2, 8))
	trySplit(t, network(2, arc(2, 1, 5), arc(1, 2, 5), arc(2, 1, 5)), []int64{2, 0, 4}, back(2, 0), back(4, 2))
	trySplit(t, network(3, arc(2, 1, 5), arc(3, 2, 3), arc(3, 2, 4)), []int64{4, 1, 3}, back(1, 1, 0), back(3, 2, 0))
}

// A walk of a flow that is worth nothing goes through source and sink as through other nodes.
func TestU1FlowsOfNoValue(t *testing.T) {
	n := sample()
	trySplit(t, n, sampleFlow(4, 3, 6, 3), cycle(3, 4, 6))
	trySplit(t, n, sampleFlow(0, 2, 1, 2, 3, 2, 4, 2), cycle(2, 0, 1, 3, 4))
	trySplit(t, n, sampleFlow(0, 2, 8, 5, 7, 3), cycle(2, 0, 8), cycle(3, 7, 8))
	trySplit(t, n, sampleFlow(3, 2, 9, 2), cycle(2, 3, 9))
	trySplit(t, n, sampleFlow(1, 4, 2, 5, 12, 1), cycle(4, 1, 2), cycle(1, 2, 12))
	trySplit(t, n, sampleFlow(5, 4), cycle(4, 5))
	// The walk begins where the first arc does, and meets itself elsewhere.
	aside := network(5, arc(2, 3, 1), arc(3, 4, 1), arc(4, 3, 1), arc(3, 2, 1))
	trySplit(t, aside, []int64{1, 1, 1, 1}, cycle(1, 1, 2), cycle(1, 0, 3))
	through := network(3, arc(2, 1, 3), arc(1, 3, 3), arc(3, 1, 2), arc(3, 2, 3))
	trySplit(t, through, []int64{1, 3, 2, 1}, cycle(2, 1, 2), cycle(1, 0, 1, 3))
}

// Ahead of the sink, and of the source on a way back, a walk may come to a node that it met.
func TestU1WalksThatMeetThemselves(t *testing.T) {
	n := sample()
	trySplit(t, n, sampleFlow(0, 3, 1, 5, 2, 2, 3, 3), cycle(2, 1, 2), path(3, 0, 1, 3))
	trySplit(t, n, sampleFlow(9, 4, 2, 6, 1, 2, 8, 4), cycle(2, 2, 1), back(4, 9, 2, 8))
	trySplit(t, n, sampleFlow(0, 4, 8, 4, 6, 1), cycle(4, 0, 8), path(1, 6))
	forth := network(4, arc(1, 2, 5), arc(2, 1, 2), arc(2, 3, 3), arc(3, 4, 3))
	trySplit(t, forth, []int64{5, 2, 3, 3}, cycle(2, 0, 1), path(3, 0, 2, 3))
	trySplit(t, net.Turn(forth), []int64{5, 2, 3, 3}, path(3, 3, 2, 0), cycle(2, 0, 1))
	and := network(4, arc(4, 2, 5), arc(2, 4, 2), arc(2, 3, 3), arc(3, 1, 3))
	trySplit(t, and, []int64{5, 2, 3, 3}, cycle(2, 0, 1), back(3, 0, 2, 3))
	twice := network(5, arc(1, 2, 9), arc(2, 3, 9), arc(3, 4, 9), arc(4, 2, 9), arc(4, 3, 9), arc(4, 5, 9))
	trySplit(t, twice, []int64{2, 5, 6, 3, 1, 2}, cycle(3, 1, 2, 3), cycle(1, 2, 4), path(2, 0, 1, 2, 5))
}

func TestU1Loops(t *testing.T) {
	n := sample()
	trySplit(t, n, sampleFlow(5, 4, 10, 2, 11, 1, 6, 3), path(3, 6), cycle(4, 5), cycle(2, 10), cycle(1, 11))
	trySplit(t, n, sampleFlow(10, 1, 4, 1), back(1, 4), cycle(1, 10))
	trySplit(t, n, sampleFlow(10, 3), cycle(3, 10))
	ahead := network(3, arc(1, 1, 2), arc(1, 2, 5), arc(2, 2, 3), arc(2, 2, 1), arc(2, 3, 5), arc(3, 3, 4))
	trySplit(t, ahead, []int64{2, 5, 3, 1, 5, 4}, cycle(2, 0), cycle(3, 2), cycle(1, 3), path(5, 1, 4), cycle(4, 5))
	aback := network(3, arc(3, 3, 2), arc(3, 2, 5), arc(2, 2, 3), arc(2, 1, 5), arc(1, 1, 4))
	trySplit(t, aback, []int64{2, 5, 3, 5, 4}, cycle(2, 0), cycle(3, 2), back(5, 1, 3), cycle(4, 4))
	for v := 1; v <= 500; v++ {
		trySplit(t, network(500, arc(v, v, 7)), []int64{7}, cycle(7, 0))
	}
}

// What goes out of the sink, or into the source, is left until the value is used up, wherever its arcs stand.
func TestU1ArcsOutOfTheSinkAndIntoTheSource(t *testing.T) {
	n := sample()
	trySplit(t, n, sampleFlow(0, 4, 1, 4, 9, 2, 3, 6), path(4, 0, 1, 3), cycle(2, 3, 9))
	trySplit(t, n, sampleFlow(0, 5, 8, 2, 1, 3, 3, 3), path(3, 0, 1, 3), cycle(2, 0, 8))
	out := network(3, arc(3, 2, 4), arc(1, 2, 3), arc(2, 3, 7))
	trySplit(t, out, []int64{4, 3, 7}, path(3, 1, 2), cycle(4, 0, 2))
	into := network(3, arc(2, 3, 3), arc(1, 2, 7), arc(2, 1, 4))
	trySplit(t, into, []int64{3, 7, 4}, path(3, 1, 0), cycle(4, 1, 2))
}

// An item may leave an amount on each of its arcs: the value holds it down.
func TestU1AmountsHeldDownByTheValue(t *testing.T) {
	n := sample()
	trySplit(t, n, sampleFlow(6, 9, 4, 8), path(1, 6), cycle(8, 4, 6))
	trySplit(t, n, sampleFlow(4, 5, 0, 2, 1, 2, 3, 2), back(3, 4), cycle(2, 0, 1, 3, 4))
	trySplit(t, n, sampleFlow(4, 3, 0, 5, 1, 5, 3, 5), path(2, 0, 1, 3), cycle(3, 0, 1, 3, 4))
	two := network(2, arc(2, 1, 2), arc(1, 2, 2), arc(1, 2, 5), arc(2, 1, 3))
	trySplit(t, two, []int64{2, 2, 5, 3}, path(2, 1), cycle(2, 0, 2), cycle(3, 2, 3))
	trySplit(t, two, []int64{2, 2, 4, 3}, path(1, 1), cycle(1, 0, 1), cycle(1, 0, 2), cycle(3, 2, 3))
	trySplit(t, two, []int64{2, 1, 2, 3}, back(2, 0), cycle(1, 1, 3), cycle(2, 2, 3))
	trySplit(t, two, []int64{2, 1, 3, 3}, back(1, 0), cycle(1, 0, 1), cycle(3, 2, 3))
}

// Items stand as they were found: behind the value the first arc that has an amount left tells where it goes on.
func TestU1OrderOfItems(t *testing.T) {
	n := network(6, arc(4, 5, 9), arc(3, 3, 9), arc(5, 4, 9), arc(1, 2, 9), arc(2, 2, 9), arc(2, 6, 9), arc(6, 1, 9), arc(1, 6, 9))
	trySplit(t, n, []int64{2, 3, 2, 4, 1, 4, 3, 2}, cycle(1, 4), path(3, 3, 5), cycle(2, 0, 2), cycle(3, 1), cycle(1, 3, 5, 6), cycle(2, 6, 7))
	trySplit(t, n, []int64{2, 3, 2, 2, 1, 2, 5, 2}, back(1, 6), cycle(2, 0, 2), cycle(3, 1), cycle(1, 4), cycle(2, 3, 5, 6), cycle(2, 6, 7))
	trySplit(t, n, []int64{2, 3, 2, 2, 1, 2, 4, 2}, cycle(2, 0, 2), cycle(3, 1), cycle(1, 4), cycle(2, 3, 5, 6), cycle(2, 6, 7))
}

type wrongNet struct {
	n api.Net
	e api.Errno
}

// wrongNets are networks that are not right, each with net.Check's error.
func wrongNets() []wrongNet {
	one := arc(1, 2, 5)
	return []wrongNet{
		{api.Net{}, api.ErrRange},
		{network(-1), api.ErrRange},
		{network(0), api.ErrRange},
		{network(1), api.ErrRange},
		{network(501, one), api.ErrRange},
		{network(lowest, one), api.ErrRange},
		{network(most, one), api.ErrRange},
		{api.Net{Nodes: 2, Source: 0, Sink: 2}, api.ErrNode},
		{api.Net{Nodes: 2, Source: 1, Sink: 3}, api.ErrNode},
		{api.Net{Nodes: 2, Source: 3, Sink: 3}, api.ErrNode},
		{api.Net{Nodes: 2, Source: lowest, Sink: most}, api.ErrNode},
		{api.Net{Nodes: 2, Source: 2, Sink: 2, Arcs: []api.Arc{one}}, api.ErrSame},
		{network(2, slices.Repeat([]api.Arc{one}, 2001)...), api.ErrCount},
		{network(2, slices.Repeat([]api.Arc{{From: 1, To: 2}}, 2001)...), api.ErrCount},
		{network(2, slices.Repeat([]api.Arc{arc(0, 9, -1)}, 1<<18)...), api.ErrCount},
		{network(2, one, arc(3, 1, 0)), api.ErrNode},
		{network(2, one, arc(1, -1, 0)), api.ErrNode},
		{network(2, arc(0, 2, 0)), api.ErrNode},
		{network(2, arc(2, 0, 0)), api.ErrNode},
		{network(2, one, arc(1, 2, -1)), api.ErrRange},
		{network(2, arc(1, 2, lowest)), api.ErrRange},
		{network(2, one, arc(1, 2, most)), api.ErrSum},
		{beside(most), api.ErrSum},
		{beside(api.MaxSum + 1), api.ErrSum},
		{beside(api.MaxSum, 1), api.ErrSum},
	}
}

// The error of the network is told ahead of those of the amounts and of the items.
func TestU1AndU2WrongNetworks(t *testing.T) {
	for _, c := range wrongNets() {
		if e := net.Check(c.n); e != c.e {
			t.Error(c, e)
		}
		for _, f := range [][]int64{nil, {-1}, make([]int64, len(c.n.Arcs)), {most, lowest}} {
			tryNoSplit(t, c.n, f, c.e)
		}
		for _, l := range [][]Item{nil, {}, {path(1, 0)}, {path(6, 0)}, {path(6, 0), {}}, {{}}, {path(0, -1)}, {{Kind: 'x', Arcs: []int{9999}}}, {cycle(most, most)}} {
			tryNoSum(t, c.n, c.e, l...)
		}
	}
}

func TestU1WrongFlows(t *testing.T) {
	n, right := sample(), sampleFlow(0, 4, 1, 4, 9, 2, 3, 6, 5, 1)
	trySplit(t, n, right, path(4, 0, 1, 3), cycle(2, 3, 9), cycle(1, 5))
	for _, f := range [][]int64{nil, {}, {-1}, right[:13], append(slices.Clone(right), 0), make([]int64, 28), slices.Repeat([]int64{-1}, 1<<20)} {
		tryNoSplit(t, n, f, api.ErrCount)
	}
	for _, f := range [][]int64{{0}, {-1}, {5, 5}} {
		tryNoSplit(t, network(2), f, api.ErrCount)
	}
	for i, a := range n.Arcs {
		for _, amount := range []int64{lowest, -1, a.Cap + 1, most} {
			f := slices.Clone(right)
			f[i] = amount
			tryNoSplit(t, n, f, api.ErrRange)
		}
	}
	// These arcs touch nodes that are neither source nor sink, and are no loops.
	for _, i := range []int{0, 1, 2, 3, 7, 8, 9, 12} {
		f := slices.Clone(right)
		f[i]++
		tryNoSplit(t, n, f, api.ErrState)
		tryNoSplit(t, n, sampleFlow(i, 1), api.ErrState)
	}
}

func TestU2Sums(t *testing.T) {
	n := sample()
	trySum(t, n, []Item{path(4, 0, 1, 3), cycle(2, 3, 9)}, sampleFlow(0, 4, 1, 4, 9, 2, 3, 6)...)
	trySum(t, n, []Item{cycle(2, 3, 9), path(4, 0, 1, 3)}, sampleFlow(0, 4, 1, 4, 9, 2, 3, 6)...)
	trySum(t, n, []Item{cycle(2, 9, 3), path(1, 0, 1, 3), path(3, 0, 1, 3)}, sampleFlow(0, 4, 1, 4, 9, 2, 3, 6)...)
	trySum(t, n, []Item{path(2, 6), back(5, 4), back(1, 9, 2, 8), path(3, 7, 12, 3)}, sampleFlow(6, 2, 4, 5, 9, 1, 2, 1, 8, 1, 7, 3, 12, 3, 3, 3)...)
	trySum(t, n, []Item{cycle(1, 5), cycle(2, 10), cycle(3, 11), cycle(4, 5)}, sampleFlow(5, 5, 10, 2, 11, 3)...)
	// A cycle may go through source and sink, and begin anywhere.
	trySum(t, n, []Item{cycle(1, 0, 1, 3, 4), cycle(2, 3, 4, 0, 1), cycle(3, 6, 4)}, sampleFlow(0, 3, 1, 3, 3, 3, 4, 6, 6, 3)...)
}

func TestU2NoItems(t *testing.T) {
	for _, none := range [][]Item{nil, {}} {
		trySum(t, sample(), none, sampleFlow()...)
		trySum(t, network(2), none)
		trySum(t, network(500), none)
		trySum(t, beside(0, api.MaxSum), none, 0, 0)
	}
	for _, l := range []Item{path(1), path(1, 0), cycle(1, 0), {}} {
		tryNoSum(t, network(2), api.ErrArg, l)
	}
}

func TestU2KindsAndAmounts(t *testing.T) {
	n := sample()
	for kind := range 256 {
		for arcs, right := range map[int]byte{6: Path, 4: Back, 5: Cycle, 10: Cycle, 11: Cycle} {
			x := Item{byte(kind), []int{arcs}, 1}
			if byte(kind) == right {
				trySum(t, n, []Item{x}, sampleFlow(arcs, 1)...)
				continue
			}
			tryNoSum(t, n, api.ErrArg, x)
		}
	}
	for _, amount := range []int64{0, -1, -9, -1 << 32, lowest + 1, lowest} {
		for _, x := range []Item{path(amount, 6), path(amount, 0, 1, 3), back(amount, 4), cycle(amount, 5), cycle(amount, 4, 6), path(amount), path(amount, 13)} {
			tryNoSum(t, n, api.ErrArg, x)
			tryNoSum(t, n, api.ErrArg, cycle(1, 5), x)
		}
	}
}

func TestU2ArcsThatThereAreNot(t *testing.T) {
	n := sample()
	for _, kind := range []byte{Path, Back, Cycle} {
		for _, none := range [][]int{nil, {}} {
			tryNoSum(t, n, api.ErrArg, Item{kind, none, 1})
		}
		for _, i := range []int{lowest, lowest + 1, -1 << 32, -14, -1, 14, 15, 2000, 1<<32 + 6, most} {
			for _, arcs := range [][]int{{i}, {i, i}, {i, 6}, {6, i}, {0, i, 3}, {4, i}, {5, i}, {i, 5}} {
				tryNoSum(t, n, api.ErrArg, Item{kind, arcs, 1})
			}
		}
	}
	tryNoSum(t, n, api.ErrArg, path(1, make([]int, 1<<20)...))
	tryNoSum(t, n, api.ErrArg, cycle(1, slices.Repeat([]int{5}, 1<<20)...))
	tryNoSum(t, n, api.ErrArg, cycle(1, slices.Repeat([]int{1, 2}, 1<<20)...))
}

func TestU2ArcsThatDoNotFollowOneAnother(t *testing.T) {
	n := sample()
	for _, arcs := range [][]int{{0, 3}, {0, 2, 3}, {1, 0, 3}, {0, 1, 9, 3}, {0, 5, 1, 3}, {6, 6}, {7, 0, 1, 3}, {0, 1, 6}} {
		tryNoSum(t, n, api.ErrArg, path(1, arcs...))
	}
	for _, arcs := range [][]int{{4, 4}, {9, 8}, {9, 4, 8}, {2, 9, 8}} {
		tryNoSum(t, n, api.ErrArg, back(1, arcs...))
	}
	for _, arcs := range [][]int{{1, 3, 4}, {0, 3, 4}, {5, 10}, {2, 2}, {1, 12, 2}, {0, 1, 4, 3}} {
		tryNoSum(t, n, api.ErrArg, cycle(1, arcs...))
	}
}

func TestU2NodesMetTwice(t *testing.T) {
	n := sample()
	for _, arcs := range [][]int{{0, 1, 2, 1, 3}, {0, 8, 6}, {0, 8, 0, 1, 3}, {11, 6}, {0, 1, 13, 3}, {6, 10}, {6, 9, 3}, {6, 4, 6}, {0, 1, 3, 9, 3}, {6, 9, 2, 12, 3}} {
		tryNoSum(t, n, api.ErrArg, path(1, arcs...))
	}
	for _, arcs := range [][]int{{10, 4}, {4, 11}, {4, 6, 4}, {9, 3, 4}, {9, 2, 1, 2, 8}, {4, 0, 8}, {9, 2, 8, 0, 8}, {9, 13, 2, 8}} {
		tryNoSum(t, n, api.ErrArg, back(1, arcs...))
	}
	for _, arcs := range [][]int{{5, 5}, {1, 2, 1, 2}, {1, 2, 12, 2}, {0, 1, 2, 8}, {0, 8, 7, 8}, {4, 6, 10}, {4, 11, 6}, {0, 1, 13, 3, 4}, {9, 2, 1, 3}} {
		tryNoSum(t, n, api.ErrArg, cycle(1, arcs...))
	}
}

func TestU2BeginningsAndEnds(t *testing.T) {
	n := sample()
	for _, arcs := range [][]int{{1, 3}, {0, 1}, {0}, {3}, {4}, {9, 2, 8}, {1}, {0, 8}, {5}, {10}, {11}, {4, 6}, {6, 4}, {0, 1, 3, 4}} {
		tryNoSum(t, n, api.ErrArg, path(1, arcs...))
	}
	for _, arcs := range [][]int{{6}, {0, 1, 3}, {2, 8}, {9, 2}, {9}, {8}, {1}, {9, 3}, {5}, {10}, {11}, {4, 6}, {6, 4}, {9, 2, 8, 6}} {
		tryNoSum(t, n, api.ErrArg, back(1, arcs...))
	}
	for _, arcs := range [][]int{{0}, {6}, {4}, {0, 1}, {0, 1, 3}, {9, 2, 8}, {4, 0}, {1, 2, 8}, {0, 1, 2}, {1, 3, 4}} {
		tryNoSum(t, n, api.ErrArg, cycle(1, arcs...))
	}
}

// rows are all rows of so many of these numbers, and all shorter ones.
func rows(numbers []int, length int) [][]int {
	all, last := [][]int{nil}, [][]int{nil}
	for range length {
		var next [][]int
		for _, row := range last {
			for _, i := range numbers {
				next = append(next, append(slices.Clone(row), i))
			}
		}
		all, last = append(all, next...), next
	}
	return all
}

func TestU2ByTheWords(t *testing.T) {
	n := network(3, arc(1, 2, 2), arc(2, 3, 2), arc(3, 1, 2), arc(2, 1, 1), arc(3, 2, 2), arc(2, 2, 2), arc(1, 3, 0))
	items := 0
	for _, arcs := range rows(count(-1, 7), 4) {
		for _, kind := range []byte{Path, Back, Cycle, 'x'} {
			x := Item{kind, arcs, 1 + int64(len(arcs)%2)}
			tryWordsOfSum(t, n, x)
			tryWordsOfSum(t, n, x, cycle(1, 0, 3), x)
			if isItemOf(n, x) {
				items++
			}
		}
	}
	// Two paths, two paths back, and six cycles that begin anywhere.
	if items != 2+2+1+3*2+2*3 {
		t.Error(items)
	}
}

func TestU2Capacities(t *testing.T) {
	n := sample()
	trySum(t, n, []Item{path(9, 6)}, sampleFlow(6, 9)...)
	tryNoSum(t, n, api.ErrRange, path(10, 6))
	trySum(t, n, []Item{path(5, 6), cycle(4, 6, 4)}, sampleFlow(6, 9, 4, 4)...)
	tryNoSum(t, n, api.ErrRange, path(5, 6), cycle(5, 6, 4))
	tryNoSum(t, n, api.ErrRange, cycle(5, 6, 4), path(5, 6))
	trySum(t, n, []Item{path(4, 0, 1, 3), cycle(5, 1, 2)}, sampleFlow(0, 4, 1, 9, 3, 4, 2, 5)...)
	tryNoSum(t, n, api.ErrRange, path(4, 0, 1, 3), cycle(6, 1, 2))
	trySum(t, n, []Item{path(4, 0, 1, 3), path(5, 7, 12, 3)}, sampleFlow(0, 4, 1, 4, 7, 5, 12, 5, 3, 9)...)
	tryNoSum(t, n, api.ErrRange, path(5, 0, 1, 3), path(5, 7, 12, 3))
	tryNoSum(t, n, api.ErrRange, cycle(1, 13))
	tryNoSum(t, n, api.ErrRange, cycle(most, 5))
	many := beside(1 << 18)
	trySum(t, many, slices.Repeat([]Item{path(1, 0)}, 1<<18), 1<<18)
	tryNoSum(t, many, api.ErrRange, slices.Repeat([]Item{path(1, 0)}, 1<<18+1)...)
}

// What is no item is told, even behind amounts that are too great.
func TestU2WhatIsNoItemIsToldFirst(t *testing.T) {
	n := sample()
	for _, wrong := range []Item{{}, path(1), path(0, 6), path(10, 4), path(most, 14), cycle(most, 5, 5), {'x', []int{6}, 10}, back(lowest, 4)} {
		tryNoSum(t, n, api.ErrArg, wrong)
		tryNoSum(t, n, api.ErrArg, path(10, 6), wrong)
		tryNoSum(t, n, api.ErrArg, wrong, path(10, 6))
		tryNoSum(t, n, api.ErrArg, path(9, 6), path(1, 6), back(most, 4), wrong, path(1, 6))
		tryNoSum(t, n, api.ErrArg, path(9, 6), wrong)
	}
}

func TestU2SumsBeyond64Bits(t *testing.T) {
	great := beside(api.MaxSum)
	trySum(t, great, []Item{path(api.MaxSum, 0)}, api.MaxSum)
	trySum(t, great, []Item{path(api.MaxSum-1, 0), path(1, 0)}, api.MaxSum)
	for _, amounts := range [][]int64{
		{api.MaxSum + 1}, {most}, {api.MaxSum, 1}, {1, api.MaxSum}, {api.MaxSum, api.MaxSum}, {api.MaxSum, most}, {most, 1}, {1, most},
		{most, most}, {most, most, 2}, {1 << 62, 1 << 62, 1 << 62, 1 << 62}, {2, most, most}, {1 << 61, most, 1 << 61, 1 << 62, 1},
	} {
		var l []Item
		for _, amount := range amounts {
			l = append(l, path(amount, 0))
		}
		tryNoSum(t, great, api.ErrRange, l...)
		tryNoSum(t, sample(), api.ErrRange, cycle(most, 4, 6), cycle(amounts[0], 5), path(1, 6), path(most, 0, 1, 3))
	}
	tryNoSum(t, network(2, arc(2, 1, 5)), api.ErrRange, back(3, 0), back(most, 0), back(most, 0))
	tryNoSum(t, network(2, arc(2, 2, 5)), api.ErrRange, cycle(3, 0), cycle(most, 0), cycle(most, 0))
}

// P3 and P4: nothing is written into, lists are new, calls know nothing of one another, and what lies behind a list's length is neither read nor written.
func TestU1AndU2NothingIsWrittenInto(t *testing.T) {
	n, right := sample(), sampleFlow(0, 3, 1, 5, 2, 2, 3, 3, 5, 1)
	want := []Item{cycle(2, 1, 2), path(3, 0, 1, 3), cycle(1, 5)}
	arcs, f := append(n.Arcs, arc(6, 3, 9)), append(slices.Clone(right), 7)
	row := []int{0, 1, 3, 9, 4}
	l := []Item{cycle(2, 1, 2), {Path, row[:3], 3}, cycle(1, 5), path(most, row...)}
	keptArcs, keptF, keptRow, keptL := slices.Clone(arcs), slices.Clone(f), slices.Clone(row), slices.Clone(l)
	n.Arcs = arcs[:14]
	items, _ := Split(n, f[:14])
	sums, _ := Sum(n, l[:3])
	for range 3 {
		trySplit(t, n, f[:14], want...)
		tryNoSplit(t, n, f, api.ErrCount)
		trySum(t, n, l[:3], right...)
		tryNoSum(t, n, api.ErrArg, l...)
		a, _ := Split(n, f[:14])
		for i := range a {
			clear(a[i].Arcs)
			_ = append(a[i].Arcs, 5, 5, 5)
		}
		clear(a)
		b, _ := Sum(n, l[:3])
		clear(b)
		_ = append(b, 5)
	}
	if !slices.Equal(arcs, keptArcs) || !slices.Equal(f, keptF) || !slices.Equal(row, keptRow) || !sameItems(l, keptL) {
		t.Error(arcs, f, row, l)
	}
	if !sameItems(items, want) || !slices.Equal(sums, right) {
		t.Error(items, sums)
	}
}

// No two lists of one answer share anything.
func TestU1ListsAreTheirOwn(t *testing.T) {
	f := sampleFlow(0, 3, 1, 5, 2, 2, 3, 3, 5, 1)
	want := []Item{cycle(2, 1, 2), path(3, 0, 1, 3), cycle(1, 5)}
	for i := range want {
		l, _ := Split(sample(), f)
		arcs := append(l[i].Arcs, 7, 7, 7, 7)
		for k := range arcs {
			arcs[k] = -1
		}
		l[i].Arcs = want[i].Arcs
		if !sameItems(l, want) {
			t.Error(i, l)
		}
	}
}

// The same object may change from call to call: what is told hangs on what it is then.
func TestU1AndU2WhatChanges(t *testing.T) {
	n, f, l := network(3, arc(1, 2, 5), arc(2, 3, 5), arc(3, 1, 5)), []int64{3, 3, 0}, []Item{path(3, 0, 1)}
	trySplit(t, n, f, path(3, 0, 1))
	trySum(t, n, l, 3, 3, 0)
	f[2] = 3
	trySplit(t, n, f, cycle(3, 0, 1, 2))
	l[0].Amount = 5
	trySum(t, n, l, 5, 5, 0)
	n.Arcs[1].Cap = 4
	tryNoSum(t, n, api.ErrRange, l...)
	n.Sink = 2
	trySplit(t, n, f, cycle(3, 0, 1, 2))
	tryNoSum(t, n, api.ErrArg, l...)
	l[0].Arcs = l[0].Arcs[:1]
	trySum(t, n, l, 5, 0, 0)
}

// meet is of use for things of any kind that can be compared.
func TestU1Meet(t *testing.T) {
	words := map[string]int{}
	for i, word := range []string{"a", "", "b"} {
		if place, ok := meet(words, word); place != 0 || ok {
			t.Error(i, place, ok)
		}
	}
	for want, word := range []string{"a", "", "b"} {
		if place, ok := meet(words, word); place != want || !ok {
			t.Error(word, place, ok)
		}
	}
	arcs := map[api.Arc]int{arc(1, 2, 3): 0}
	if place, ok := meet(arcs, arc(1, 2, 4)); place != 0 || ok {
		t.Error(place, ok)
	}
	if place, ok := meet(arcs, arc(1, 2, 4)); place != 1 || !ok {
		t.Error(place, ok)
	}
}

func TestU1AndU3AmountsNearTheGreatest(t *testing.T) {
	for _, amount := range []int64{1, 1 << 32, 1 << 61, api.MaxSum - 1, api.MaxSum} {
		trySplit(t, beside(api.MaxSum), []int64{amount}, path(amount, 0))
		trySplit(t, network(2, arc(2, 1, api.MaxSum)), []int64{amount}, back(amount, 0))
		trySplit(t, network(2, arc(2, 2, api.MaxSum)), []int64{amount}, cycle(amount, 0))
	}
	half := int64(1 << 61)
	trySplit(t, network(2, arc(1, 2, half), arc(2, 1, half-1)), []int64{half, half - 1}, path(1, 0), cycle(half-1, 0, 1))
	trySplit(t, network(2, arc(2, 1, half), arc(1, 2, half-1)), []int64{half, half - 1}, back(1, 0), cycle(half-1, 0, 1))
	trySplit(t, network(2, arc(1, 2, half-1), arc(1, 2, half)), []int64{half - 1, half}, path(half-1, 0), path(half, 1))
	trySplit(t, network(3, arc(1, 2, half), arc(2, 3, half-1)), []int64{half - 1, half - 1}, path(half-1, 0, 1))
	third := int64(api.MaxSum / 3)
	trySplit(t, network(3, arc(1, 2, third), arc(2, 3, third), arc(3, 1, third)), []int64{third, third, third - 1}, path(1, 0, 1), cycle(third-1, 0, 1, 2))
}

// All flows of three nodes and four arcs, of all ends, with amounts of 0 to 2.
func TestU1AndU3AllSmallFlows(t *testing.T) {
	kinds := map[byte]int{}
	for code := range 9 * 9 * 9 * 9 {
		n := network(3)
		for ends := code; len(n.Arcs) < 4; ends /= 9 {
			n.Arcs = append(n.Arcs, arc(1+ends%9/3, 1+ends%3, 2))
		}
		for amounts := range int64(81) {
			f := []int64{amounts % 3, amounts / 3 % 3, amounts / 9 % 3, amounts / 27}
			if flow.Check(n, f) != api.OK {
				tryNoSplit(t, n, f, api.ErrState)
				continue
			}
			want := splitOf(n, f)
			trySplit(t, n, f, want...)
			for _, x := range want {
				kinds[x.Kind]++
			}
		}
	}
	for _, kind := range []byte{Path, Back, Cycle} {
		if kinds[kind] < 10000 {
			t.Error(kind, kinds[kind])
		}
	}
}

// rule tells one number behind the other, from 0 on, below a bound.
type rule uint32

func (r *rule) below(bound int) int {
	*r = *r*1664525 + 1013904223
	return int(*r>>10) % bound
}

// laid is a network and a flow of it that is put together of walks, by a rule that hangs on a number: from the source to the sink, back, or round, through any nodes, as often as it comes.
func laid(number int) (api.Net, []int64) {
	r := rule(number)
	n := network(2 + r.below(8))
	n.Source, n.Sink = 1+number%n.Nodes, 1+(number+1+r.below(n.Nodes-1))%n.Nodes
	var f []int64
	for range 1 + r.below(8) {
		from, to := n.Source, n.Sink
		kinds := []string{"p", "b", "c", "pb", "pbc"}[number%5]
		switch kinds[r.below(len(kinds))] {
		case Back:
			from, to = to, from
		case Cycle:
			from = 1 + r.below(n.Nodes)
			to = from
		}
		amount := int64(1 + r.below(5))
		if number%3 == 0 {
			amount <<= 50
		}
		for range r.below(6) {
			at := 1 + r.below(n.Nodes)
			f = lay(&n, f, from, at, amount, &r)
			from = at
		}
		f = lay(&n, f, from, to, amount, &r)
	}
	return n, f
}

// lay lets an amount go from a node to another one, by an arc that is there already, or by a new one.
func lay(n *api.Net, f []int64, from, to int, amount int64, r *rule) []int64 {
	i := slices.IndexFunc(n.Arcs, func(a api.Arc) bool { return a.From == from && a.To == to })
	if i < 0 || r.below(3) == 0 {
		i = r.below(1 + len(f))
		n.Arcs, f = slices.Insert(n.Arcs, i, arc(from, to, int64(r.below(3)))), slices.Insert(f, i, 0)
	}
	n.Arcs[i].Cap += amount
	f[i] += amount
	return f
}

func TestU1AndU3LaidFlows(t *testing.T) {
	seen := map[string]int{}
	for number := range 4000 {
		n, f := laid(number)
		want := splitOf(n, f)
		trySplit(t, n, f, want...)
		if len(want) > 0 && want[0].Kind == Cycle {
			seen["a cycle first"]++
		}
		if value, _ := flow.Value(n, f); value == 0 {
			seen["no value"]++
		}
		for _, x := range want {
			seen[string(rune(x.Kind))]++
		}
	}
	for _, what := range []string{"a cycle first", "no value", "p", "b", "c"} {
		if seen[what] < 500 {
			t.Error(what, seen[what])
		}
	}
}

// The items of flows that were laid are one too many for capacities that are just their amounts, if one more goes along.
func TestU2AndU3LaidItems(t *testing.T) {
	for number := range 1000 {
		n, f := laid(number)
		for i := range n.Arcs {
			n.Arcs[i].Cap = f[i]
		}
		l := splitOf(n, f)
		trySum(t, n, l, f...)
		slices.Reverse(l)
		trySum(t, n, l, f...)
		for i, x := range l {
			tryNoSum(t, n, api.ErrRange, append(slices.Clone(l), Item{x.Kind, x.Arcs, 1})...)
			more := slices.Clone(l)
			more[i].Amount++
			tryNoSum(t, n, api.ErrRange, more...)
			more[i].Amount = -x.Amount
			tryNoSum(t, n, api.ErrArg, more...)
		}
	}
}

// wide networks have rows of nodes with arcs to the next row, to their own, to the one before and to the one behind the next, by a rule, and as many arcs as there may be.
func wide(capacity func(i int) int64) api.Net {
	n := network(500)
	for i := range 10 {
		n.Arcs = append(n.Arcs, arc(1, 2+i, 10*capacity(i)), arc(392+i, 500, 10*capacity(i)))
	}
	for i := range 1980 {
		row, ahead := i%39, []int{1, 1, 1, 0, 1, -1, 1, 2}[i%8]
		to := min(max(row+ahead, 0), 39)
		n.Arcs = append(n.Arcs, arc(2+10*row+i*7/39%10, 2+10*to+(i*i+i/3)%10, capacity(i)))
	}
	return n
}

func TestU1AndU3FlowsOfTheGreatestValue(t *testing.T) {
	for _, capacity := range []func(i int) int64{
		func(i int) int64 { return int64(1 + i*i%97) },
		func(i int) int64 { return int64(i*i%97)<<40 + int64(i%5) },
	} {
		n := wide(capacity)
		m, _ := dinic.Max(n, dinic.Plain)
		tryWordsOfSplit(t, n, m.Flow)
		tryWordsOfSplit(t, net.Turn(n), m.Flow)
		n.Source, n.Sink = n.Sink, n.Source
		tryWordsOfSplit(t, n, m.Flow)
	}
}

// A way through all nodes, at the end of which 1501 loops stand: each of them is one walk more by all of the way.
func TestU1AndU3AsManyNodesAndArcsAsThereMayBe(t *testing.T) {
	n, f, want := network(500), []int64(nil), []Item(nil)
	for v := 1; v < 500; v++ {
		n.Arcs, f = append(n.Arcs, arc(v, v+1, 3)), append(f, 3)
	}
	n.Arcs[498] = arc(499, 499, 3)
	for len(n.Arcs) < 1999 {
		n.Arcs, f = append(n.Arcs, arc(499, 499, 3)), append(f, 1+int64(len(n.Arcs)%3))
	}
	n.Arcs, f = append(n.Arcs, arc(499, 500, 3)), append(f, 3)
	for i := 498; i < 1999; i++ {
		want = append(want, cycle(f[i], i))
	}
	way := append(count(0, 497), 1999)
	trySplit(t, n, f, slices.Concat(want, []Item{path(3, way...)})...)
	turned := net.Turn(n)
	n.Source, n.Sink = 500, 1
	trySplit(t, n, f, slices.Concat(want, []Item{back(3, way...)})...)
	// Turned round, the way to the sink stands ahead of the loops.
	slices.Reverse(way)
	trySplit(t, turned, f, slices.Concat([]Item{path(3, way...)}, want)...)
}

// A ring of all nodes, and as many rounds by arcs beside one another as there may be.
func TestU1AndU3Rings(t *testing.T) {
	n, f := network(500), []int64(nil)
	for i := range 2000 {
		n.Arcs, f = append(n.Arcs, arc(1+i%500, 1+(i+1)%500, 9)), append(f, int64(1+i/500))
	}
	trySplit(t, n, f, cycle(1, count(0, 499)...), cycle(2, count(500, 999)...), cycle(3, count(1000, 1499)...), cycle(4, count(1500, 1999)...))
	n.Source, n.Sink = 250, 249
	trySplit(t, n, f, cycle(1, count(0, 499)...), cycle(2, count(500, 999)...), cycle(3, count(1000, 1499)...), cycle(4, count(1500, 1999)...))
	f[248]--
	trySplit(t, n, f, path(1, append(count(249, 499), count(0, 247)...)...), cycle(2, count(500, 999)...), cycle(3, count(1000, 1499)...), cycle(4, count(1500, 1999)...))
	if l, e := Sum(n, []Item{cycle(9, count(0, 499)...), cycle(9, count(500, 999)...)}); e != api.OK || len(l) != 2000 || l[999] != 9 || l[1000] != 0 {
		t.Error(l, e)
	}
}

// Each of 2000 arcs is an item of its own; of arcs that go back as well there are at most as many items as arcs.
func TestU1AndU3AsManyItemsAsArcs(t *testing.T) {
	n, f, want := network(2), []int64(nil), []Item(nil)
	for i := range 2000 {
		n.Arcs, f = append(n.Arcs, arc(1, 2, 2000)), append(f, int64(2000-i))
		want = append(want, path(f[i], i))
	}
	trySplit(t, n, f, want...)
	for i := range n.Arcs {
		n.Arcs[i] = arc(1+i%2, 2-i%2, 2000)
	}
	tryWordsOfSplit(t, n, f)
	n.Source, n.Sink = 2, 1
	tryWordsOfSplit(t, n, f)
	slices.Reverse(f)
	tryWordsOfSplit(t, n, f)
}
