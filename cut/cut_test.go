package cut

import (
	"math"
	"math/big"
	"slices"
	"testing"

	"raceway/api"
	"raceway/dinic"
	"raceway/flow"
	"raceway/net"
	"raceway/scale"
)

const (
	most   = math.MaxInt64
	lowest = math.MinInt64
)

// network has its source at 1 and its sink at its last node.
func network(nodes int, arcs ...api.Arc) api.Net {
	return api.Net{Nodes: nodes, Source: 1, Sink: nodes, Arcs: arcs}
}

// sample has arcs beside one another, loops, an arc to the source, one from the sink, and one without a capacity. Its source is 3, its sink 2; 6 has no arcs.
func sample() api.Net {
	return api.Net{Nodes: 6, Source: 3, Sink: 2, Arcs: []api.Arc{
		{From: 3, To: 1, Cap: 4},
		{From: 3, To: 1, Cap: 2},
		{From: 1, To: 4, Cap: 5},
		{From: 4, To: 2, Cap: 9},
		{From: 4, To: 1, Cap: 7},
		{From: 3, To: 3, Cap: 8},
		{From: 5, To: 2, Cap: 6},
		{From: 1, To: 3, Cap: 1},
		{From: 2, To: 5, Cap: 10},
		{From: 3, To: 2, Cap: 0},
		{From: 3, To: 4, Cap: 3},
		{From: 2, To: 2, Cap: 2},
	}}
}

// sampleMost is worth 8; there is none that is worth more.
func sampleMost() []int64 { return []int64{4, 1, 5, 8, 0, 6, 2, 0, 2, 0, 3, 1} }

// beside are arcs from 1 to 2, of these capacities.
func beside(capacities ...int64) api.Net {
	n := network(2)
	for _, c := range capacities {
		n.Arcs = append(n.Arcs, api.Arc{From: 1, To: 2, Cap: c})
	}
	return n
}

// long is a way of so many nodes, with arcs of these capacities in turn.
func long(nodes int, capacities ...int64) api.Net {
	n := network(nodes)
	for v := 1; v < nodes; v++ {
		n.Arcs = append(n.Arcs, api.Arc{From: v, To: v + 1, Cap: capacities[(v-1)%len(capacities)]})
	}
	return n
}

// count is from, from + 1, and so on, to to.
func count(from, to int) []int {
	var l []int
	for v := from; v <= to; v++ {
		l = append(l, v)
	}
	return l
}

// tryCut takes a set, and what Capacity and Arcs must tell of it.
func tryCut(t *testing.T, n api.Net, set []int, capacity int64, arcs ...int) {
	t.Helper()
	if got, e := Capacity(n, set); got != capacity || e != api.OK {
		t.Errorf("Capacity(%v, %d): %d, %d; want %d", n, set, got, e, capacity)
	}
	if got, e := Arcs(n, set); !slices.Equal(got, arcs) || e != api.OK {
		t.Errorf("Arcs(%v, %d): %d, %d; want %d", n, set, got, e, arcs)
	}
}

func tryNoCut(t *testing.T, n api.Net, set []int, want api.Errno) {
	t.Helper()
	if got, e := Capacity(n, set); got != 0 || e != want {
		t.Errorf("Capacity of %d nodes, %d arcs: %d, %d; want %d", n.Nodes, len(n.Arcs), got, e, want)
	}
	if got, e := Arcs(n, set); len(got) != 0 || e != want {
		t.Errorf("Arcs of %d nodes, %d arcs: %d, %d; want %d", n.Nodes, len(n.Arcs), got, e, want)
	}
}

func tryFirstLast(t *testing.T, n api.Net, f []int64, first, last []int) {
	t.Helper()
	if got, e := First(n, f); !slices.Equal(got, first) || e != api.OK {
		t.Errorf("First(%v, %d): %d, %d; want %d", n, f, got, e, first)
	}
	if got, e := Last(n, f); !slices.Equal(got, last) || e != api.OK {
		t.Errorf("Last(%v, %d): %d, %d; want %d", n, f, got, e, last)
	}
}

func tryNoFirstLast(t *testing.T, n api.Net, f []int64, want api.Errno) {
	t.Helper()
	if got, e := First(n, f); len(got) != 0 || e != want {
		t.Errorf("First(%v, %d): %d, %d; want %d", n, f, got, e, want)
	}
	if got, e := Last(n, f); len(got) != 0 || e != want {
		t.Errorf("Last(%v, %d): %d, %d; want %d", n, f, got, e, want)
	}
}

func tryProve(t *testing.T, n api.Net, f []int64, set []int, want api.Errno) {
	t.Helper()
	if e := Prove(n, f, set); e != want {
		t.Errorf("Prove(%v, %d, %d): %d; want %d", n, f, set, e, want)
	}
}

// setOf are the numbers of the bits that are set.
func setOf(bits int) []int {
	var l []int
	for v := range 63 {
		if bits>>v&1 == 1 {
			l = append(l, v)
		}
	}
	return l
}

// cutsOf are all cuts of a small network.
func cutsOf(n api.Net) [][]int {
	var l [][]int
	for bits := 2; bits < 2<<n.Nodes; bits += 2 {
		if bits>>n.Source&1 == 1 && bits>>n.Sink&1 == 0 {
			l = append(l, setOf(bits))
		}
	}
	return l
}

// crossingOf goes by the words of the document, with numbers without bounds.
func crossingOf(n api.Net, set []int) (*big.Int, []int) {
	sum, l := new(big.Int), []int(nil)
	for i, arc := range n.Arcs {
		if slices.Contains(set, arc.From) && !slices.Contains(set, arc.To) {
			sum.Add(sum, big.NewInt(arc.Cap))
			l = append(l, i)
		}
	}
	return sum, l
}

// cutErrorOf goes by the words of the document, of a right network.
func cutErrorOf(n api.Net, set []int) api.Errno {
	for i, v := range set {
		if v < 1 || v > n.Nodes || i > 0 && v <= set[i-1] {
			return api.ErrArg
		}
	}
	if !slices.Contains(set, n.Source) || slices.Contains(set, n.Sink) {
		return api.ErrState
	}
	return api.OK
}

// comesOf tells of each two nodes whether one comes from the one to the other over tracks with a room of 1, by trying all ways between.
func comesOf(n api.Net, f []int64) [][]bool {
	l := make([][]bool, n.Nodes+1)
	for v := range l {
		l[v] = make([]bool, n.Nodes+1)
		l[v][v] = true
	}
	for i, arc := range n.Arcs {
		l[arc.From][arc.To] = l[arc.From][arc.To] || f[i] < arc.Cap
		l[arc.To][arc.From] = l[arc.To][arc.From] || f[i] > 0
	}
	for between := range l {
		for from := range l {
			for to := range l {
				l[from][to] = l[from][to] || l[from][between] && l[between][to]
			}
		}
	}
	return l
}

// tryWordsOfFlow holds First and Last of a flow against the words of the document, and tells whether there are any.
func tryWordsOfFlow(t *testing.T, n api.Net, f []int64) bool {
	t.Helper()
	comes := comesOf(n, f)
	if comes[n.Source][n.Sink] {
		tryNoFirstLast(t, n, f, api.ErrNone)
		return false
	}
	var first, last []int
	for v := 1; v <= n.Nodes; v++ {
		if comes[n.Source][v] {
			first = append(first, v)
		}
		if !comes[v][n.Sink] {
			last = append(last, v)
		}
	}
	tryFirstLast(t, n, f, first, last)
	return true
}

func TestK1Capacities(t *testing.T) {
	n := sample()
	tryCut(t, n, []int{3}, 9, 0, 1, 9, 10)
	tryCut(t, n, []int{1, 3}, 8, 2, 9, 10)
	tryCut(t, n, []int{3, 4}, 22, 0, 1, 3, 4, 9)
	tryCut(t, n, []int{3, 5}, 15, 0, 1, 6, 9, 10)
	tryCut(t, n, []int{1, 3, 4}, 9, 3, 9)
	tryCut(t, n, []int{3, 6}, 9, 0, 1, 9, 10)
	tryCut(t, n, []int{1, 3, 4, 5, 6}, 15, 3, 6, 9)
}

// The arcs that come back over a cut, and loops on both of its sides, do not cross it.
func TestK1ArcsThatDoNotCross(t *testing.T) {
	arc := func(from, to int) api.Arc { return api.Arc{From: from, To: to, Cap: 5} }
	back := network(4, arc(3, 1), arc(4, 2), arc(4, 1), arc(1, 1), arc(2, 2), arc(3, 3), arc(4, 4), arc(1, 2), arc(2, 1), arc(3, 4), arc(4, 3))
	tryCut(t, back, []int{1, 2}, 0)
	tryCut(t, back, []int{1}, 5, 7)
	tryCut(t, back, []int{1, 3}, 10, 7, 9)
	tryCut(t, back, []int{1, 2, 3}, 5, 9)
	tryCut(t, network(2, arc(2, 1), arc(1, 1), arc(2, 2)), []int{1}, 0)
}

// Several arcs between two nodes cross on their own, and one without a capacity crosses too.
func TestK1ArcsBesideOneAnother(t *testing.T) {
	tryCut(t, beside(5, 0, 3, 5), []int{1}, 13, 0, 1, 2, 3)
	tryCut(t, beside(0), []int{1}, 0, 0)
	tryCut(t, beside(0, 0, 0), []int{1}, 0, 0, 1, 2)
	n := beside(4, 4)
	n.Arcs = append(n.Arcs, api.Arc{From: 2, To: 1, Cap: 9}, api.Arc{From: 1, To: 2, Cap: 4})
	tryCut(t, n, []int{1}, 12, 0, 1, 3)
	turned := net.Turn(n)
	tryCut(t, turned, []int{2}, 12, 0, 1, 3)
}

func TestK1NoArcs(t *testing.T) {
	tryCut(t, network(2), []int{1}, 0)
	tryCut(t, network(500), []int{1}, 0)
	tryCut(t, network(500), count(1, 499), 0)
	tryCut(t, api.Net{Nodes: 500, Source: 500, Sink: 1}, count(2, 500), 0)
	tryCut(t, api.Net{Nodes: 3, Source: 2, Sink: 1, Arcs: []api.Arc{}}, []int{2}, 0)
}

func TestK1SourceAloneAndAllButTheSink(t *testing.T) {
	n := long(500, 7)
	tryCut(t, n, []int{1}, 7, 0)
	tryCut(t, n, count(1, 499), 7, 498)
	for v := 1; v < 500; v++ {
		tryCut(t, n, count(1, v), 7, v-1)
	}
	n.Source, n.Sink = 250, 251
	tryCut(t, n, []int{250}, 7, 249)
	tryCut(t, n, append(count(1, 250), count(252, 500)...), 7, 249)
	tryCut(t, n, count(2, 250), 7, 249)
	tryCut(t, n, []int{1, 250, 500}, 14, 0, 249)
}

func TestK1SetsWithoutTheSourceOrWithTheSink(t *testing.T) {
	n := sample()
	for _, set := range [][]int{nil, {}, {1}, {6}, {1, 4, 5, 6}, {2}, {2, 3}, {1, 2}, {1, 2, 3, 4, 5, 6}, {2, 4, 5, 6}} {
		tryNoCut(t, n, set, api.ErrState)
	}
	for _, set := range [][]int{nil, {2}, {1, 2}} {
		tryNoCut(t, network(2), set, api.ErrState)
	}
	tryNoCut(t, network(500), count(2, 499), api.ErrState)
	tryNoCut(t, network(500), count(1, 500), api.ErrState)
}

// What is no row of nodes that rise is told ahead of a source that is missing and a sink that is there.
func TestK1SetsThatDoNotRise(t *testing.T) {
	n := sample()
	for _, set := range [][]int{
		{3, 1}, {3, 3}, {1, 1}, {1, 3, 3}, {1, 3, 1}, {6, 3}, {3, 4, 6, 5}, {2, 2}, {2, 1}, {4, 4}, {1, 2, 3, 4, 5, 6, 6},
	} {
		tryNoCut(t, n, set, api.ErrArg)
	}
	for _, v := range []int{lowest, lowest + 1, -1 << 32, -3, -1, 0} {
		tryNoCut(t, n, []int{v}, api.ErrArg)
		tryNoCut(t, n, []int{v, 3}, api.ErrArg)
		tryNoCut(t, n, []int{v, 2, 3}, api.ErrArg)
		tryNoCut(t, n, []int{3, v}, api.ErrArg)
	}
	for _, v := range []int{7, 8, 500, 501, 1<<32 + 3, 1<<32 + 6, most - 1, most} {
		tryNoCut(t, n, []int{v}, api.ErrArg)
		tryNoCut(t, n, []int{3, v}, api.ErrArg)
		tryNoCut(t, n, []int{2, v}, api.ErrArg)
		tryNoCut(t, n, []int{v, 3}, api.ErrArg)
	}
	tryNoCut(t, n, make([]int, 1<<20), api.ErrArg)
	tryNoCut(t, n, count(1, 1<<20), api.ErrArg)
	tryNoCut(t, network(500), count(1, 501), api.ErrArg)
	tryNoCut(t, network(500), count(0, 499), api.ErrArg)
}

// sets are all rows of so many numbers, of -1 to one more than there are nodes, and all shorter ones.
func sets(nodes, length int) [][]int {
	all, last := [][]int{nil}, [][]int{nil}
	for range length {
		var next [][]int
		for _, row := range last {
			for v := -1; v <= nodes+1; v++ {
				next = append(next, append(slices.Clone(row), v))
			}
		}
		all, last = append(all, next...), next
	}
	return all
}

func TestK1ByTheWords(t *testing.T) {
	n := sample()
	for _, set := range cutsOf(n) {
		capacity, arcs := crossingOf(n, set)
		tryCut(t, n, set, capacity.Int64(), arcs...)
	}
	for _, set := range sets(6, 4) {
		if e := cutErrorOf(n, set); e != api.OK {
			tryNoCut(t, n, set, e)
			continue
		}
		capacity, arcs := crossingOf(n, set)
		tryCut(t, n, set, capacity.Int64(), arcs...)
	}
}

type wrongNet struct {
	n api.Net
	e api.Errno
}

// wrongNets are networks that are not right, each with net.Check's error.
func wrongNets() []wrongNet {
	arc := api.Arc{From: 1, To: 2, Cap: 5}
	return []wrongNet{
		{api.Net{}, api.ErrRange},
		{network(-1), api.ErrRange},
		{network(0), api.ErrRange},
		{network(1), api.ErrRange},
		{network(501, arc), api.ErrRange},
		{network(lowest, arc), api.ErrRange},
		{network(most, arc), api.ErrRange},
		{api.Net{Nodes: 2, Source: 0, Sink: 2}, api.ErrNode},
		{api.Net{Nodes: 2, Source: 1, Sink: 3}, api.ErrNode},
		{api.Net{Nodes: 2, Source: 3, Sink: 3}, api.ErrNode},
		{api.Net{Nodes: 2, Source: lowest, Sink: most}, api.ErrNode},
		{api.Net{Nodes: 2, Source: 2, Sink: 2}, api.ErrSame},
		{network(2, slices.Repeat([]api.Arc{arc}, 2001)...), api.ErrCount},
		{network(2, slices.Repeat([]api.Arc{{From: 1, To: 2}}, 2001)...), api.ErrCount},
		{network(2, slices.Repeat([]api.Arc{{From: 0, To: 9, Cap: -1}}, 1<<18)...), api.ErrCount},
		{network(2, arc, api.Arc{From: 3, To: 1}), api.ErrNode},
		{network(2, arc, api.Arc{From: 1, To: -1}), api.ErrNode},
		{network(2, api.Arc{From: 0, To: 2}), api.ErrNode},
		{network(2, arc, api.Arc{From: 1, To: 2, Cap: -1}), api.ErrRange},
		{network(2, api.Arc{From: 1, To: 2, Cap: lowest}), api.ErrRange},
		{network(2, arc, api.Arc{From: 1, To: 2, Cap: most}), api.ErrSum},
		{beside(most), api.ErrSum},
		{beside(api.MaxSum + 1), api.ErrSum},
		{beside(api.MaxSum, 1), api.ErrSum},
	}
}

// The error of the network is told ahead of those of the set and of the amounts.
func TestK1ToK3WrongNetworks(t *testing.T) {
	for _, c := range wrongNets() {
		if e := net.Check(c.n); e != c.e {
			t.Error(c, e)
		}
		for _, set := range [][]int{nil, {1}, {2}, {1, 2}, {2, 1}, {0, 1}, {1, 1}, {1, 3}, {lowest}, {most}} {
			tryNoCut(t, c.n, set, c.e)
			for _, f := range [][]int64{nil, {-1}, make([]int64, len(c.n.Arcs)), {most, lowest}} {
				tryNoFirstLast(t, c.n, f, c.e)
				tryProve(t, c.n, f, set, c.e)
			}
		}
	}
}

func TestK1ToK3CapacitiesNearTheGreatest(t *testing.T) {
	great := beside(api.MaxSum)
	tryCut(t, great, []int{1}, api.MaxSum, 0)
	tryNoFirstLast(t, great, []int64{0}, api.ErrNone)
	tryNoFirstLast(t, great, []int64{api.MaxSum - 1}, api.ErrNone)
	tryFirstLast(t, great, []int64{api.MaxSum}, []int{1}, []int{1})
	tryProve(t, great, []int64{api.MaxSum}, []int{1}, api.OK)
	tryProve(t, great, []int64{api.MaxSum - 1}, []int{1}, api.ErrNone)
	tryProve(t, great, []int64{api.MaxSum - 1<<32}, []int{1}, api.ErrNone)
	tryProve(t, great, []int64{0}, []int{1}, api.ErrNone)
	parts := beside(1<<61, 1<<61-2, 1)
	tryCut(t, parts, []int{1}, api.MaxSum, 0, 1, 2)
	tryProve(t, parts, []int64{1 << 61, 1<<61 - 2, 1}, []int{1}, api.OK)
	tryProve(t, parts, []int64{1 << 61, 1<<61 - 2, 0}, []int{1}, api.ErrNone)
	back := network(2, api.Arc{From: 2, To: 1, Cap: api.MaxSum})
	tryCut(t, back, []int{1}, 0)
	tryFirstLast(t, back, []int64{0}, []int{1}, []int{1})
	tryProve(t, back, []int64{0}, []int{1}, api.OK)
	for _, amount := range []int64{1, 1 << 32, api.MaxSum - 1, api.MaxSum} {
		tryNoFirstLast(t, back, []int64{amount}, api.ErrNone)
		tryProve(t, back, []int64{amount}, []int{1}, api.ErrNone)
	}
	many := beside(slices.Repeat([]int64{api.MaxSum / 2000}, 2000)...)
	tryCut(t, many, []int{1}, api.MaxSum/2000*2000, count(0, 1999)...)
	narrow := network(3, api.Arc{From: 1, To: 2, Cap: api.MaxSum - 1}, api.Arc{From: 2, To: 3, Cap: 1})
	tryCut(t, narrow, []int{1}, api.MaxSum-1, 0)
	tryCut(t, narrow, []int{1, 2}, 1, 1)
	tryFirstLast(t, narrow, []int64{1, 1}, []int{1, 2}, []int{1, 2})
	tryProve(t, narrow, []int64{1, 1}, []int{1}, api.ErrNone)
	tryProve(t, narrow, []int64{1, 1}, []int{1, 2}, api.OK)
}

func TestK2Example(t *testing.T) {
	n := long(3, 5, 3)
	tryFirstLast(t, n, []int64{3, 3}, []int{1, 2}, []int{1, 2})
	tryProve(t, n, []int64{3, 3}, []int{1, 2}, api.OK)
	tryProve(t, n, []int64{3, 3}, []int{1}, api.ErrNone)
}

func TestK2Sample(t *testing.T) {
	tryFirstLast(t, sample(), sampleMost(), []int{1, 3}, []int{1, 3, 6})
	back := []int64{4, 2, 5, 8, 0, 0, 0, 1, 0, 0, 3, 0}
	tryFirstLast(t, sample(), back, []int{1, 3}, []int{1, 3, 6})
	round := []int64{4, 2, 5, 8, 0, 0, 6, 1, 6, 0, 3, 0}
	tryFirstLast(t, sample(), round, []int{1, 3}, []int{1, 3, 6})
}

// The sets rise, wherever source and sink stand, and in whatever order one comes to the nodes.
func TestK2SetsRise(t *testing.T) {
	arc := func(from, to int, capacity int64) api.Arc { return api.Arc{From: from, To: to, Cap: capacity} }
	n := api.Net{Nodes: 9, Source: 8, Sink: 4, Arcs: []api.Arc{
		arc(8, 6, 5), arc(6, 9, 5), arc(9, 1, 5), arc(1, 7, 2), arc(7, 3, 2), arc(3, 5, 2), arc(5, 2, 4), arc(2, 4, 4),
	}}
	tryFirstLast(t, n, slices.Repeat([]int64{2}, 8), []int{1, 6, 8, 9}, []int{1, 3, 6, 7, 8, 9})
	turned := net.Turn(n)
	tryFirstLast(t, turned, slices.Repeat([]int64{2}, 8), []int{2, 4, 5}, []int{2, 3, 4, 5, 7})
}

func TestK2FirstAndLastThatDiffer(t *testing.T) {
	n := long(6, 3)
	tryFirstLast(t, n, slices.Repeat([]int64{3}, 5), []int{1}, []int{1, 2, 3, 4, 5})
	n = long(6, 9, 3, 9, 3, 9)
	tryFirstLast(t, n, slices.Repeat([]int64{3}, 5), []int{1, 2}, []int{1, 2, 3, 4})
	n = long(6, 9, 9, 3, 9, 9)
	tryFirstLast(t, n, slices.Repeat([]int64{3}, 5), []int{1, 2, 3}, []int{1, 2, 3})
	tryFirstLast(t, long(500, 1), slices.Repeat([]int64{1}, 499), []int{1}, count(1, 499))
	tryFirstLast(t, long(500, 0), make([]int64, 499), []int{1}, count(1, 499))
	tryFirstLast(t, long(500, 2, 1), slices.Repeat([]int64{1}, 499), []int{1, 2}, count(1, 498))
}

// A node to which one does not come, and from which one does not come to the sink, is of Last alone; an arc from it to the sink takes it out.
func TestK2NodesAside(t *testing.T) {
	arc := func(from, to int) api.Arc { return api.Arc{From: from, To: to, Cap: 5} }
	tryFirstLast(t, network(5, arc(1, 5)), []int64{5}, []int{1}, []int{1, 2, 3, 4})
	tryFirstLast(t, network(5, arc(1, 5), arc(2, 5)), []int64{5, 0}, []int{1}, []int{1, 3, 4})
	tryFirstLast(t, network(5, arc(1, 5), arc(1, 3)), []int64{5, 0}, []int{1, 3}, []int{1, 2, 3, 4})
	tryFirstLast(t, network(5, arc(1, 5), arc(2, 3), arc(3, 2)), []int64{5, 0, 0}, []int{1}, []int{1, 2, 3, 4})
	tryFirstLast(t, network(5, arc(1, 5), arc(2, 3), arc(3, 2), arc(4, 3), arc(2, 5)), []int64{5, 0, 0, 0, 0}, []int{1}, []int{1})
	tryFirstLast(t, network(4, arc(1, 2), arc(3, 4)), []int64{0, 0}, []int{1, 2}, []int{1, 2})
	tryFirstLast(t, network(4, arc(2, 1), arc(4, 3)), []int64{0, 0}, []int{1}, []int{1, 2, 3})
	tryFirstLast(t, network(3, arc(1, 1), arc(2, 2), arc(3, 3)), []int64{5, 3, 0}, []int{1}, []int{1, 2})
}

// Tracks that go back are gone by too: to a node from which the flow came, and to the sink from one to which it went on.
func TestK2TracksThatGoBack(t *testing.T) {
	arc := func(from, to int, capacity int64) api.Arc { return api.Arc{From: from, To: to, Cap: capacity} }
	n := network(5, arc(1, 2, 3), arc(1, 3, 9), arc(2, 4, 3), arc(3, 4, 2), arc(4, 5, 4), arc(2, 5, 0))
	tryFirstLast(t, n, []int64{3, 1, 3, 1, 4, 0}, []int{1, 2, 3, 4}, []int{1, 2, 3, 4})
	tryFirstLast(t, n, []int64{2, 2, 2, 2, 4, 0}, []int{1, 2, 3, 4}, []int{1, 2, 3, 4})
	n = network(4, arc(1, 2, 4), arc(2, 3, 5), arc(2, 4, 3), arc(3, 4, 4))
	tryFirstLast(t, n, []int64{4, 1, 3, 1}, []int{1}, []int{1})
	n = network(3, arc(1, 3, 2), arc(3, 2, 4), arc(2, 3, 4))
	tryFirstLast(t, n, []int64{2, 0, 0}, []int{1}, []int{1})
	tryFirstLast(t, n, []int64{2, 4, 4}, []int{1}, []int{1})
	n = network(3, arc(1, 3, 2), arc(3, 2, 4), arc(2, 2, 4))
	tryFirstLast(t, n, []int64{2, 0, 3}, []int{1}, []int{1, 2})
}

// The sink is come to just as long as the flow is not of the greatest value, be it by a room of 1 alone.
func TestK2FlowsThatAreNotOfTheGreatestValue(t *testing.T) {
	for amount := range int64(5) {
		tryNoFirstLast(t, beside(5), []int64{amount}, api.ErrNone)
		tryNoFirstLast(t, long(500, 5, 9), slices.Repeat([]int64{amount}, 499), api.ErrNone)
	}
	tryFirstLast(t, beside(5), []int64{5}, []int{1}, []int{1})
	tryNoFirstLast(t, beside(5, 3, 4), []int64{5, 2, 4}, api.ErrNone)
	tryFirstLast(t, beside(5, 3, 4), []int64{5, 3, 4}, []int{1}, []int{1})
	n := sample()
	tryNoFirstLast(t, n, make([]int64, 12), api.ErrNone)
	tryNoFirstLast(t, n, []int64{4, 0, 4, 7, 0, 0, 0, 0, 0, 0, 3, 0}, api.ErrNone)
	tryNoFirstLast(t, n, []int64{4, 1, 5, 7, 0, 0, 0, 0, 0, 0, 2, 0}, api.ErrNone)
	crossed := []api.Arc{{From: 1, To: 2, Cap: 5}, {From: 2, To: 3, Cap: 5}, {From: 3, To: 4, Cap: 5}, {From: 1, To: 3, Cap: 7}, {From: 2, To: 4, Cap: 3}}
	tryNoFirstLast(t, network(4, crossed...), []int64{5, 5, 5, 0, 0}, api.ErrNone)
	tryNoFirstLast(t, network(4, crossed...), []int64{5, 3, 5, 2, 2}, api.ErrNone)
	tryFirstLast(t, network(4, crossed...), []int64{5, 2, 5, 3, 3}, []int{1, 2, 3}, []int{1, 2, 3})
}

func TestK2NoArcs(t *testing.T) {
	for _, none := range [][]int64{nil, {}} {
		tryFirstLast(t, network(2), none, []int{1}, []int{1})
		tryFirstLast(t, network(500), none, []int{1}, count(1, 499))
		tryFirstLast(t, api.Net{Nodes: 500, Source: 500, Sink: 1}, none, []int{500}, count(2, 500))
		tryFirstLast(t, api.Net{Nodes: 4, Source: 3, Sink: 2}, none, []int{3}, []int{1, 3, 4})
	}
}

type wrongFlow struct {
	f []int64
	e api.Errno
}

// wrongFlows are amounts of the sample that are no flow, each with flow.Check's error.
func wrongFlows() []wrongFlow {
	n := sample()
	l := []wrongFlow{
		{nil, api.ErrCount},
		{[]int64{}, api.ErrCount},
		{[]int64{-1}, api.ErrCount},
		{sampleMost()[:11], api.ErrCount},
		{append(sampleMost(), 0), api.ErrCount},
		{make([]int64, 24), api.ErrCount},
		{slices.Repeat([]int64{-1}, 1<<20), api.ErrCount},
	}
	for i, arc := range n.Arcs {
		for _, amount := range []int64{lowest, -1, arc.Cap + 1, most} {
			f := sampleMost()
			f[i] = amount
			l = append(l, wrongFlow{f, api.ErrRange})
		}
	}
	// These arcs touch nodes that are neither source nor sink, and are no loops.
	for _, i := range []int{0, 1, 2, 3, 4, 6, 7, 8, 10} {
		f := make([]int64, 12)
		f[i] = 1
		l = append(l, wrongFlow{f, api.ErrState})
	}
	f := sampleMost()
	f[3]++
	return append(l, wrongFlow{f, api.ErrState})
}

// The errors of the amounts are told ahead of ErrNone, and ahead of those of the set.
func TestK2AndK3WrongFlows(t *testing.T) {
	n := sample()
	for _, c := range wrongFlows() {
		if e := flow.Check(n, c.f); e != c.e {
			t.Error(c, e)
		}
		tryNoFirstLast(t, n, c.f, c.e)
		for _, set := range [][]int{nil, {3}, {1, 3}, {2}, {3, 1}, {0}, {7}, {1, 3, 4}} {
			tryProve(t, n, c.f, set, c.e)
		}
	}
	for _, f := range [][]int64{{0}, {-1}, {5, 5}} {
		tryNoFirstLast(t, network(2), f, api.ErrCount)
		tryProve(t, network(2), f, []int{2, 1}, api.ErrCount)
	}
}

func TestK3Prove(t *testing.T) {
	n := sample()
	tryProve(t, n, sampleMost(), []int{1, 3}, api.OK)
	tryProve(t, n, sampleMost(), []int{1, 3, 6}, api.OK)
	for _, set := range [][]int{{3}, {3, 6}, {1, 3, 4}, {1, 3, 5}, {3, 4, 5}, {1, 3, 4, 5, 6}} {
		tryProve(t, n, sampleMost(), set, api.ErrNone)
	}
	tryProve(t, n, []int64{4, 0, 4, 7, 0, 0, 0, 0, 0, 0, 3, 0}, []int{1, 3}, api.ErrNone)
	tryProve(t, n, make([]int64, 12), []int{1, 3}, api.ErrNone)
	for _, set := range [][]int{{1}, {1, 2}, {1, 2, 3}} {
		for amount := range int64(4) {
			want := api.ErrNone
			if amount == 3 && len(set) < 3 {
				want = api.OK
			}
			tryProve(t, long(4, 3, 3, 9), slices.Repeat([]int64{amount}, 3), set, want)
		}
	}
}

// The errors of the set are told ahead of that of the value, be the flow worth what it may.
func TestK3WrongSets(t *testing.T) {
	n := sample()
	for _, f := range [][]int64{sampleMost(), make([]int64, 12), {4, 0, 4, 7, 0, 0, 0, 0, 0, 0, 3, 0}} {
		for _, set := range [][]int{{3, 1}, {3, 3}, {2, 2}, {0}, {0, 1, 3}, {1, 3, 7}, {-1, 3}, {lowest, 3}, {3, most}, {2, 9}, {1, 3, 2}} {
			tryProve(t, n, f, set, api.ErrArg)
		}
		for _, set := range [][]int{nil, {}, {1}, {2}, {2, 3}, {1, 2, 3}, {1, 4, 6}} {
			tryProve(t, n, f, set, api.ErrState)
		}
	}
}

// What is worth nothing is proved by a cut that lets nothing through; what is worth less than nothing by none.
func TestK3FlowsOfNoValue(t *testing.T) {
	for v := 1; v < 500; v++ {
		tryProve(t, network(500), nil, count(1, v), api.OK)
	}
	tryProve(t, beside(0, 0), []int64{0, 0}, []int{1}, api.OK)
	arcs := []api.Arc{{From: 2, To: 1, Cap: 5}, {From: 3, To: 2, Cap: 5}}
	tryProve(t, network(3, arcs...), []int64{0, 0}, []int{1}, api.OK)
	tryProve(t, network(3, arcs...), []int64{0, 0}, []int{1, 2}, api.OK)
	for amount := int64(1); amount <= 5; amount++ {
		tryProve(t, network(3, arcs...), []int64{amount, amount}, []int{1}, api.ErrNone)
		tryNoFirstLast(t, network(3, arcs...), []int64{amount, amount}, api.ErrNone)
	}
	loops := network(2, api.Arc{From: 1, To: 1, Cap: 5}, api.Arc{From: 2, To: 2, Cap: 5})
	tryProve(t, loops, []int64{5, 3}, []int{1}, api.OK)
}

// P3 and P4: nothing is written into, lists are new, calls know nothing of one another, and what lies behind a list's length is neither read nor written.
func TestK1ToK3NothingIsWrittenInto(t *testing.T) {
	arcs, f, set := append(sample().Arcs, api.Arc{From: 3, To: 2, Cap: 9}), append(sampleMost(), 7), []int{1, 3, 6, 5, 2}
	keptArcs, keptF, keptSet := slices.Clone(arcs), slices.Clone(f), slices.Clone(set)
	n := sample()
	n.Arcs = arcs[:12]
	crossing, _ := Arcs(n, set[:3])
	first, _ := First(n, f[:12])
	last, _ := Last(n, f[:12])
	for range 3 {
		tryNoCut(t, n, set[:4], api.ErrArg)
		tryCut(t, n, set[:3], 8, 2, 9, 10)
		tryFirstLast(t, n, f[:12], []int{1, 3}, []int{1, 3, 6})
		tryProve(t, n, f[:12], set[:3], api.OK)
		tryProve(t, n, f, set[:3], api.ErrCount)
		a, _ := Arcs(n, set[:3])
		b, _ := First(n, f[:12])
		c, _ := Last(n, f[:12])
		for _, l := range [][]int{a, b, c} {
			clear(l)
			_ = append(l, 5)
		}
	}
	if !slices.Equal(arcs, keptArcs) || !slices.Equal(f, keptF) || !slices.Equal(set, keptSet) {
		t.Error(arcs, f, set)
	}
	if !slices.Equal(crossing, []int{2, 9, 10}) || !slices.Equal(first, []int{1, 3}) || !slices.Equal(last, []int{1, 3, 6}) {
		t.Error(crossing, first, last)
	}
}

// The same object may change from call to call: what is told hangs on what it is then.
func TestK1AndK2WhatChanges(t *testing.T) {
	n, f, set := long(4, 3), []int64{3, 3, 3}, []int{1, 2}
	tryCut(t, n, set, 3, 1)
	tryFirstLast(t, n, f, []int{1}, []int{1, 2, 3})
	n.Arcs[1].Cap = 8
	tryCut(t, n, set, 8, 1)
	tryFirstLast(t, n, f, []int{1}, []int{1, 2, 3})
	n.Arcs[0].Cap = 4
	tryFirstLast(t, n, f, []int{1, 2, 3}, []int{1, 2, 3})
	set[1] = 3
	tryCut(t, n, set, 7, 0, 2)
}

// smallNets are the networks of four nodes and three arcs, of all ends, with capacities of 0 to 2.
func smallNets(yield func(api.Net) bool) {
	for code := range 16 * 16 * 16 {
		var arcs []api.Arc
		for i, ends := range []int{code % 16, code / 16 % 16, code / 256} {
			arcs = append(arcs, api.Arc{From: 1 + ends/4, To: 1 + ends%4, Cap: int64(ends+i) % 3})
		}
		for _, n := range []api.Net{{Nodes: 4, Source: 1, Sink: 4, Arcs: arcs}, {Nodes: 4, Source: 3, Sink: 2, Arcs: arcs}} {
			if !yield(n) {
				return
			}
		}
	}
}

// flowsOf are all flows of a network of three arcs, whose capacities are 2 at most.
func flowsOf(n api.Net) [][]int64 {
	var l [][]int64
	for amounts := range int64(27) {
		f := []int64{amounts % 3, amounts / 3 % 3, amounts / 9}
		if flow.Check(n, f) == api.OK {
			l = append(l, f)
		}
	}
	return l
}

// within tells whether each node of a is one of b.
func within(a, b []int) bool {
	for _, v := range a {
		if !slices.Contains(b, v) {
			return false
		}
	}
	return true
}

// tryAllCuts: no flow is worth more than a cut lets through, Prove takes just the two that are worth the same, and of a flow of the greatest value each least cut lies between First and Last.
func tryAllCuts(t *testing.T, n api.Net, f []int64) (int64, bool) {
	t.Helper()
	value, _ := flow.Value(n, f)
	first, e := First(n, f)
	last, _ := Last(n, f)
	proved := false
	for _, set := range cutsOf(n) {
		capacity, _ := crossingOf(n, set)
		want := api.ErrNone
		if capacity.Int64() == value {
			want = api.OK
		}
		tryProve(t, n, f, set, want)
		if capacity.Int64() < value {
			t.Errorf("%v, %d is worth %d; %d lets %v through", n, f, value, set, capacity)
		}
		if capacity.Int64() == value && (!within(first, set) || !within(set, last)) {
			t.Errorf("%v, %d: %d is not between %d and %d", n, f, set, first, last)
		}
		proved = proved || capacity.Int64() == value
	}
	if proved != (e == api.OK) {
		t.Errorf("First(%v, %d): %d, %d; a cut proves it: %t", n, f, first, e, proved)
	}
	return value, proved
}

// tryFirstLastProved: both are cuts of the least capacity.
func tryFirstLastProved(t *testing.T, n api.Net, f []int64) {
	t.Helper()
	first, e := First(n, f)
	last, d := Last(n, f)
	if e != api.OK || d != api.OK || !within(first, last) {
		t.Errorf("First and Last of %v, %d: %d, %d, %d, %d", n, f, first, e, last, d)
	}
	tryProve(t, n, f, first, api.OK)
	tryProve(t, n, f, last, api.OK)
}

func TestK2AndK4AllSmallFlows(t *testing.T) {
	differ := 0
	for n := range smallNets {
		best, provedValue := int64(lowest), int64(lowest)
		for _, f := range flowsOf(n) {
			tryWordsOfFlow(t, n, f)
			value, proved := tryAllCuts(t, n, f)
			best = max(best, value)
			if proved {
				provedValue = value
				tryFirstLastProved(t, n, f)
				first, _ := First(n, f)
				last, _ := Last(n, f)
				if len(first) < len(last) {
					differ++
				}
			}
		}
		if best != provedValue {
			t.Errorf("%v: the greatest value is %d; proved is %d", n, best, provedValue)
		}
	}
	if differ < 1000 {
		t.Error(differ)
	}
}

// What Prove takes is a flow of the greatest value, and a cut of the least capacity.
func TestK4WhatProveTakes(t *testing.T) {
	taken := 0
	for n := range smallNets {
		flows, best, narrowest := flowsOf(n), int64(lowest), int64(most)
		for _, f := range flows {
			value, _ := flow.Value(n, f)
			best = max(best, value)
		}
		for _, set := range cutsOf(n) {
			capacity, _ := Capacity(n, set)
			narrowest = min(narrowest, capacity)
		}
		for _, set := range cutsOf(n) {
			for _, f := range flows {
				if Prove(n, f, set) != api.OK {
					continue
				}
				taken++
				value, _ := flow.Value(n, f)
				if capacity, _ := Capacity(n, set); value != best || capacity != narrowest {
					t.Errorf("Prove(%v, %d, %d): worth %d, of %d; lets %d through, of %d", n, f, set, value, best, capacity, narrowest)
				}
			}
		}
	}
	if taken < 1000 {
		t.Error(taken)
	}
}

// ruled networks have arcs whose ends and capacities go by a rule that hangs on a number. Each fourth arc goes from the source, and each fourth to the sink, so that there are many walks.
func ruled(number int) api.Net {
	nodes := 4 + number%9
	n := network(nodes)
	x := uint32(number + 1)
	for i := range 3*nodes + number%7 {
		x = x*1664525 + 1013904223
		arc := api.Arc{From: 1 + int(x>>8)%nodes, To: 1 + int(x>>16)%nodes, Cap: int64(x>>24) % 10}
		if number%3 == 0 {
			arc.Cap *= 1<<50 + 1
		}
		switch i % 4 {
		case 0:
			arc.From = 1
		case 2:
			arc.To = nodes
		}
		n.Arcs = append(n.Arcs, arc)
	}
	if number%2 == 1 {
		return net.Turn(n)
	}
	return n
}

// tryLesserFlow: a flow that is stopped as soon as no walk has so much room is worth less, or has the same cuts.
func tryLesserFlow(t *testing.T, n api.Net, least int64) bool {
	t.Helper()
	r, _ := dinic.From(n, make([]int64, len(n.Arcs)), least, dinic.Plain)
	if n.Nodes <= 12 {
		tryAllCuts(t, n, r.Flow)
	}
	return tryWordsOfFlow(t, n, r.Flow)
}

// The flows of all engines have the same First and the same Last: those of the network.
func TestK4RuledNetworks(t *testing.T) {
	lesser := 0
	for number := range 150 {
		n := ruled(number)
		m, _ := dinic.Max(n, dinic.Tree)
		f, _, _ := scale.Max(n, dinic.Plain)
		first, _ := First(n, m.Flow)
		last, _ := Last(n, m.Flow)
		for _, l := range [][]int64{m.Flow, f} {
			if _, proved := tryAllCuts(t, n, l); !proved || !tryWordsOfFlow(t, n, l) {
				t.Errorf("%v, %d: not proved", n, l)
			}
			tryFirstLast(t, n, l, first, last)
			tryFirstLastProved(t, n, l)
		}
		for _, least := range []int64{2, 4, 7, 1 << 52} {
			if !tryLesserFlow(t, n, least) {
				lesser++
			}
		}
	}
	if lesser < 100 {
		t.Error(lesser)
	}
}

// wide networks have rows of nodes with arcs to the next row, to their own, to the one before and to the one behind the next, by a rule, and as many arcs as there may be.
func wide(capacity func(i int) int64) api.Net {
	n := network(500)
	for i := range 10 {
		n.Arcs = append(n.Arcs, api.Arc{From: 1, To: 2 + i, Cap: 10 * capacity(i)}, api.Arc{From: 392 + i, To: 500, Cap: 10 * capacity(i)})
	}
	for i := range 1980 {
		row, ahead := i%39, []int{1, 1, 1, 0, 1, -1, 1, 2}[i%8]
		to := min(max(row+ahead, 0), 39)
		n.Arcs = append(n.Arcs, api.Arc{From: 2 + 10*row + i*7/39%10, To: 2 + 10*to + (i*i+i/3)%10, Cap: capacity(i)})
	}
	return n
}

func TestK4AsManyNodesAndArcsAsThereMayBe(t *testing.T) {
	for _, capacity := range []func(i int) int64{
		func(i int) int64 { return int64(1 + i*i%97) },
		func(i int) int64 { return 1 },
		func(i int) int64 { return int64(i*i%97)<<40 + int64(i%5) },
	} {
		n := wide(capacity)
		m, _ := dinic.Max(n, dinic.Tree)
		for _, c := range []struct {
			n api.Net
			f []int64
		}{{n, m.Flow}, {net.Turn(n), m.Flow}} {
			if !tryWordsOfFlow(t, c.n, c.f) {
				t.Errorf("%d: not the greatest value", c.f)
			}
			tryFirstLastProved(t, c.n, c.f)
			tryNoFirstLast(t, c.n, make([]int64, 2000), api.ErrNone)
			tryProve(t, c.n, make([]int64, 2000), []int{c.n.Source}, api.ErrNone)
		}
	}
}

// All 2000 arcs cross, and each of them alone takes the proof away.
func TestK1ToK3AsManyArcsAsThereMayBe(t *testing.T) {
	n, f, sum := network(2), []int64(nil), int64(0)
	for i := range 2000 {
		n.Arcs = append(n.Arcs, api.Arc{From: 1, To: 2, Cap: int64(2000 - i)})
		f, sum = append(f, int64(2000-i)), sum+int64(2000-i)
	}
	tryCut(t, n, []int{1}, sum, count(0, 1999)...)
	tryFirstLast(t, n, f, []int{1}, []int{1})
	tryProve(t, n, f, []int{1}, api.OK)
	for _, i := range []int{0, 1, 999, 1998, 1999} {
		f[i]--
		tryNoFirstLast(t, n, f, api.ErrNone)
		tryProve(t, n, f, []int{1}, api.ErrNone)
		f[i]++
	}
}
