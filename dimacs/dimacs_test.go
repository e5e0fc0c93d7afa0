package dimacs

import (
	"math"
	"math/big"
	"slices"
	"strconv"
	"strings"
	"testing"

	"raceway/api"
	"raceway/net"
)

const (
	most  = math.MaxInt64
	least = math.MinInt64
)

// head stands ahead of the arcs of a network of three nodes, which has one arc.
const head = "p max 3 1\nn 1 s\nn 3 t\n"

// beyond is no int64.
const beyond = "9223372036854775808"

func rows(lines ...string) string { return strings.Join(lines, "\n") + "\n" }

func network(nodes int, arcs ...api.Arc) api.Net {
	return api.Net{Nodes: nodes, Source: 1, Sink: nodes, Arcs: arcs}
}

// tryRight wants the text to be read as that network.
func tryRight(t *testing.T, s string, want api.Net) {
	t.Helper()
	n, at, e := Parse(s)
	if !net.Same(n, want) || at != 0 || e != api.OK {
		t.Errorf("Parse(%.300q): %v, %d, %d; want %v", s, n, at, e, want)
	}
}

type wrongCase struct {
	s  string
	at int
	e  api.Errno
}

func tryWrong(t *testing.T, cases ...wrongCase) {
	t.Helper()
	for _, c := range cases {
		n, at, e := Parse(c.s)
		if n.Nodes != 0 || n.Source != 0 || n.Sink != 0 || len(n.Arcs) != 0 || at != c.at || e != c.e {
			t.Errorf("Parse(%.300q): %v, %d, %d; want %d, %d", c.s, n, at, e, c.at, c.e)
		}
	}
}

func TestD1Networks(t *testing.T) {
	tryRight(t, "p max 2 1\nn 1 s\nn 2 t\na 1 2 5\n", network(2, api.Arc{From: 1, To: 2, Cap: 5}))
	tryRight(t, "p max 2 0\nn 1 s\nn 2 t\n", network(2))
	tryRight(t, "p max 2 0\nn 2 t\nn 1 s\n", network(2))
	tryRight(t, "p max 2 0\nn 2 s\nn 1 t\n", api.Net{Nodes: 2, Source: 2, Sink: 1})
	tryRight(t, "p max 9 0\nn 7 t\nn 9 s\n", api.Net{Nodes: 9, Source: 9, Sink: 7})
	tryRight(t, rows("p max 3 5", "n 1 s", "n 3 t", "a 1 2 5", "a 1 2 5", "a 2 2 0", "a 3 1 7", "a 2 3 1"), network(3,
		api.Arc{From: 1, To: 2, Cap: 5},
		api.Arc{From: 1, To: 2, Cap: 5},
		api.Arc{From: 2, To: 2},
		api.Arc{From: 3, To: 1, Cap: 7},
		api.Arc{From: 2, To: 3, Cap: 1},
	))
}

func TestD1LinesThatSayNothing(t *testing.T) {
	one := network(3, api.Arc{From: 1, To: 2, Cap: 5})
	for _, nothing := range []string{"", " ", "\t \r", "c", "c\r", "  c", "c p max 9 9", "c n 2 s", "c a 1 2 3", "c c", "\tc\tn", "c \x00\xff\v"} {
		tryRight(t, rows(nothing, "p max 3 1", nothing, nothing, "n 1 s", nothing, "n 3 t", nothing, "a 1 2 5", nothing), one)
		tryRight(t, rows("p max 3 1", "n 1 s", "n 3 t", "a 1 2 5")+nothing, one)
		tryWrong(t,
			wrongCase{rows(nothing), 2, api.ErrForm},
			wrongCase{rows(nothing, nothing, "p max 3 1", nothing, "n 4 s"), 5, api.ErrNode},
			wrongCase{head + rows(nothing, nothing), 6, api.ErrCount},
		)
	}
	for _, something := range []string{"cc", "C", "c\v", "\vc", "#", "\u00a0", "\x00", "ca 1 2 3", "\u00e9", "."} {
		tryWrong(t,
			wrongCase{something, 1, api.ErrForm},
			wrongCase{rows("c", something, "p max 3 1"), 2, api.ErrForm},
			wrongCase{head + "a 1 2 5\n" + something, 5, api.ErrForm},
		)
	}
}

func TestD1Blanks(t *testing.T) {
	one := network(3, api.Arc{From: 1, To: 2, Cap: 5})
	for _, blank := range []string{" ", "\t", "\r", "  ", " \t\r", "\r\r"} {
		s := strings.ReplaceAll(head+"a 1 2 5\n", " ", blank)
		tryRight(t, s, one)
		tryRight(t, strings.ReplaceAll(s, "\n", blank+"\n"+blank), one)
		tryRight(t, strings.TrimSuffix(s, "\n"), one)
	}
	for _, other := range []string{"", "\v", "\f", "\x00", "\u00a0", "\u0085", ",", "\n"} {
		tryWrong(t,
			wrongCase{"p max" + other + "3 1\n", 1, api.ErrForm},
			wrongCase{"p max 3 1\nn 1" + other + "s\n", 2, api.ErrForm},
			wrongCase{head + "a 1 2" + other + "5\n", 4, api.ErrForm},
		)
	}
}

func TestD1WaysToWriteANumber(t *testing.T) {
	tryRight(t, rows("p max 00003 0001", "n 01 s", "n 003 t", "a 01 0002 -0"), network(3, api.Arc{From: 1, To: 2}))
	tryRight(t, rows("p max 2 -0", "n 1 s", "n 2 t"), network(2))
	for _, w := range []string{"x", "+2", "2.0", "2,", "0x2", "1e0", "--2", "-", "2-", "2_0", "\u0662", "s", "p"} {
		tryWrong(t,
			wrongCase{"p max " + w + " 1\n", 1, api.ErrForm},
			wrongCase{"p max 3 " + w + "\n", 1, api.ErrForm},
			wrongCase{"p max 3 1\nn " + w + " s\n", 2, api.ErrForm},
			wrongCase{"p max 3 1\nn " + w + " t\n", 2, api.ErrForm},
			wrongCase{head + "a " + w + " 2 5\n", 4, api.ErrForm},
			wrongCase{head + "a 1 " + w + " 5\n", 4, api.ErrForm},
			wrongCase{head + "a 1 2 " + w + "\n", 4, api.ErrForm},
		)
	}
	for _, w := range []string{beyond, "-9223372036854775809", "99999999999999999999", "18446744073709551617", "18446744073709551618"} {
		tryWrong(t,
			wrongCase{"p max " + w + " 1\n", 1, api.ErrRange},
			wrongCase{"p max 3 " + w + "\n", 1, api.ErrRange},
			wrongCase{"p max 3 1\nn " + w + " s\n", 2, api.ErrRange},
			wrongCase{"p max 3 1\nn " + w + " t\n", 2, api.ErrRange},
			wrongCase{head + "a " + w + " 2 5\n", 4, api.ErrRange},
			wrongCase{head + "a 1 " + w + " 5\n", 4, api.ErrRange},
			wrongCase{head + "a 1 2 " + w + "\n", 4, api.ErrRange},
		)
	}
}

// No word may be missing, or one too many, or another one.
func TestD1WrongWords(t *testing.T) {
	for _, line := range []string{"p", "p max", "p max 3", "p max 3 1 1", "p 3 1", "p 3 1 max", "p min 3 1", "p Max 3 1", "P max 3 1", "max p 3 1", "pmax 3 1", "p max3 1", "pp max 3 1", "p maxx 3 1", "p flow 3 1"} {
		tryWrong(t, wrongCase{line, 1, api.ErrForm}, wrongCase{"c\n" + line + "\n" + head, 2, api.ErrForm})
	}
	for _, line := range []string{"n", "n 1", "n s", "n 1 s s", "n 1 1 s", "n 1 x", "n 1 S", "n 1 T", "n 1 st", "n s 1", "n 1 1", "N 1 s", "nn 1 s", "1 s", "s 1 n"} {
		tryWrong(t, wrongCase{"p max 3 1\n" + line, 2, api.ErrForm}, wrongCase{"p max 3 1\nn 2 t\n" + line + "\na 1 2 5\n", 3, api.ErrForm})
	}
	for _, line := range []string{"a", "a 1", "a 1 2", "a 1 2 5 5", "a 1 2 5 c", "A 1 2 5", "aa 1 2 5", "1 2 5", "1 2 5 a", "e 1 2 5", "a1 2 5"} {
		tryWrong(t, wrongCase{head + line, 4, api.ErrForm}, wrongCase{head + line + "\na 1 2 5\n", 4, api.ErrForm})
	}
}

func TestD1WhereALineMayStand(t *testing.T) {
	tryWrong(t,
		wrongCase{rows("n 1 s", "p max 3 1"), 1, api.ErrForm},
		wrongCase{rows("n 3 t", "p max 3 1"), 1, api.ErrForm},
		wrongCase{rows("a 1 2 5", "p max 3 1"), 1, api.ErrForm},
		wrongCase{rows("p max 3 1", "p max 3 1"), 2, api.ErrForm},
		wrongCase{rows("p max 3 1", "n 1 s", "p max 3 1"), 3, api.ErrForm},
		wrongCase{head + "p max 3 1\n", 4, api.ErrForm},
		wrongCase{head + "a 1 2 5\np max 3 1\n", 5, api.ErrForm},
		wrongCase{rows("p max 3 1", "a 1 2 5"), 2, api.ErrForm},
		wrongCase{rows("p max 3 1", "n 1 s", "a 1 2 5", "n 3 t"), 3, api.ErrForm},
		wrongCase{rows("p max 3 1", "n 3 t", "a 1 2 5", "n 1 s"), 3, api.ErrForm},
		wrongCase{rows("p max 3 1", "n 1 s", "n 1 s"), 3, api.ErrForm},
		wrongCase{rows("p max 3 1", "n 1 s", "n 2 s"), 3, api.ErrForm},
		wrongCase{rows("p max 3 1", "n 3 t", "n 3 t"), 3, api.ErrForm},
		wrongCase{rows("p max 3 1", "n 3 t", "n 2 t"), 3, api.ErrForm},
		wrongCase{head + "n 1 s\n", 4, api.ErrForm},
		wrongCase{head + "n 3 t\n", 4, api.ErrForm},
		wrongCase{head + "a 1 2 5\nn 1 s\n", 5, api.ErrForm},
		wrongCase{head + "a 1 2 5\nn 2 t\n", 5, api.ErrForm},
	)
}

func TestD1RangesOfAProblem(t *testing.T) {
	for nodes := 2; nodes <= 500; nodes++ {
		w := strconv.Itoa(nodes)
		tryRight(t, rows("p max "+w+" 0", "n 1 s", "n "+w+" t"), network(nodes))
	}
	for _, nodes := range []int{least, -500, -2, -1, 0, 1, 501, 502, 1 << 32, 1<<32 + 2, most} {
		tryWrong(t, wrongCase{"p max " + strconv.Itoa(nodes) + " 1\n", 1, api.ErrRange})
	}
	for _, arcs := range []int{0, 1, 2, 1999, 2000} {
		s := "p max 2 " + strconv.Itoa(arcs) + "\nn 1 s\nn 2 t\n" + strings.Repeat("a 1 2 5\n", arcs)
		tryRight(t, s, network(2, slices.Repeat([]api.Arc{{From: 1, To: 2, Cap: 5}}, arcs)...))
	}
	for _, arcs := range []int{least, -2000, -1, 2001, 2002, 1 << 32, 1<<32 + 1, most} {
		tryWrong(t, wrongCase{"p max 2 " + strconv.Itoa(arcs) + "\n", 1, api.ErrRange})
	}
}

func TestD1Nodes(t *testing.T) {
	for _, v := range []int{least, -1, 0, 4, 5, 500, 1<<32 + 1, most} {
		w := strconv.Itoa(v)
		tryWrong(t,
			wrongCase{"p max 3 1\nn " + w + " s\n", 2, api.ErrNode},
			wrongCase{"p max 3 1\nn " + w + " t\n", 2, api.ErrNode},
			wrongCase{"p max 3 1\nn 1 s\nn " + w + " t\n", 3, api.ErrNode},
			wrongCase{"p max 3 1\nn 1 t\nn " + w + " s\n", 3, api.ErrNode},
			wrongCase{head + "a " + w + " 2 5\n", 4, api.ErrNode},
			wrongCase{head + "a 1 " + w + " 5\n", 4, api.ErrNode},
			wrongCase{head + "a " + w + " " + w + " 5\n", 4, api.ErrNode},
		)
	}
	for u := 1; u <= 3; u++ {
		for v := 1; v <= 3; v++ {
			arc := "a " + strconv.Itoa(u) + " " + strconv.Itoa(v) + " 5\n"
			tryRight(t, head+arc, network(3, api.Arc{From: u, To: v, Cap: 5}))
		}
	}
}

func TestD1SourceAndSinkAreTwo(t *testing.T) {
	for v := 1; v <= 3; v++ {
		w := strconv.Itoa(v)
		tryWrong(t,
			wrongCase{rows("p max 3 0", "n "+w+" s", "n "+w+" t"), 3, api.ErrSame},
			wrongCase{rows("p max 3 0", "n "+w+" t", "c", "n 0"+w+" s"), 4, api.ErrSame},
		)
		for u := 1; u <= 3; u++ {
			if u != v {
				want := api.Net{Nodes: 3, Source: u, Sink: v}
				tryRight(t, rows("p max 3 0", "n "+strconv.Itoa(u)+" s", "n "+w+" t"), want)
				tryRight(t, rows("p max 3 0", "n "+w+" t", "n "+strconv.Itoa(u)+" s"), want)
			}
		}
	}
}

func TestD1HowManyArcs(t *testing.T) {
	for said := range 4 {
		for told := range 6 {
			s := "p max 3 " + strconv.Itoa(said) + "\nn 1 s\nn 3 t\n" + strings.Repeat("a 1 2 5\n", told)
			switch {
			case told < said:
				tryWrong(t, wrongCase{s, 4 + told, api.ErrCount})
			case told > said:
				tryWrong(t, wrongCase{s, 4 + said, api.ErrCount})
			default:
				tryRight(t, s, network(3, slices.Repeat([]api.Arc{{From: 1, To: 2, Cap: 5}}, told)...))
			}
		}
	}
	s := "p max 2 2000\nn 1 s\nn 2 t\n"
	tryWrong(t,
		wrongCase{s + strings.Repeat("a 1 2 5\n", 1999), 2003, api.ErrCount},
		wrongCase{s + strings.Repeat("a 1 2 5\n", 2001), 2004, api.ErrCount},
	)
}

func TestD1Capacities(t *testing.T) {
	for _, c := range []struct {
		caps []int64
		at   int
		e    api.Errno
	}{
		{[]int64{0}, 0, api.OK},
		{[]int64{-1}, 4, api.ErrRange},
		{[]int64{least}, 4, api.ErrRange},
		{[]int64{3, 0, -1}, 6, api.ErrRange},
		{[]int64{api.MaxSum}, 0, api.OK},
		{[]int64{api.MaxSum + 1}, 4, api.ErrSum},
		{[]int64{most}, 4, api.ErrSum},
		{[]int64{api.MaxSum, 0, 0}, 0, api.OK},
		{[]int64{0, api.MaxSum, 1, 0}, 6, api.ErrSum},
		{[]int64{1, api.MaxSum - 1}, 0, api.OK},
		{[]int64{1, api.MaxSum}, 5, api.ErrSum},
		{[]int64{1 << 61, 1<<61 - 1}, 0, api.OK},
		{[]int64{1 << 61, 1 << 61}, 5, api.ErrSum},
		// What is added here goes round.
		{[]int64{1, most}, 5, api.ErrSum},
		{[]int64{api.MaxSum, most}, 5, api.ErrSum},
		{slices.Repeat([]int64{api.MaxSum / 2000}, 2000), 0, api.OK},
		{slices.Repeat([]int64{api.MaxSum/2000 + 1}, 2000), 2003, api.ErrSum},
	} {
		lines, arcs := []string{"p max 2 " + strconv.Itoa(len(c.caps)), "n 1 s", "n 2 t"}, []api.Arc(nil)
		for _, n := range c.caps {
			lines = append(lines, "a 1 2 "+strconv.FormatInt(n, 10))
			arcs = append(arcs, api.Arc{From: 1, To: 2, Cap: n})
		}
		if c.e == api.OK {
			tryRight(t, rows(lines...), network(2, arcs...))
		} else {
			tryWrong(t, wrongCase{rows(lines...), c.at, c.e})
		}
	}
}

// A loop, and arcs into the source and out of the sink, count to the sum as all others do.
func TestD1SumOfAllArcs(t *testing.T) {
	tryWrong(t, wrongCase{rows("p max 3 2", "n 1 s", "n 3 t", "a 2 2 4611686018427387903", "a 3 1 1"), 5, api.ErrSum})
	tryRight(t, rows("p max 3 2", "n 1 s", "n 3 t", "a 2 2 4611686018427387902", "a 3 1 1"),
		network(3, api.Arc{From: 2, To: 2, Cap: api.MaxSum - 1}, api.Arc{From: 3, To: 1, Cap: 1}))
}

func TestD1BehindAllLines(t *testing.T) {
	tryWrong(t,
		wrongCase{"", 1, api.ErrForm},
		wrongCase{"\n", 2, api.ErrForm},
		wrongCase{"c", 2, api.ErrForm},
		wrongCase{"\n\n\n", 4, api.ErrForm},
		wrongCase{"\n\nc", 4, api.ErrForm},
		wrongCase{"p max 3 1", 2, api.ErrForm},
		wrongCase{"p max 3 0\n", 2, api.ErrForm},
		wrongCase{"p max 3 0\nn 1 s", 3, api.ErrForm},
		wrongCase{"p max 3 0\nn 1 t\n", 3, api.ErrForm},
		wrongCase{"p max 3 1\nn 1 t\n\n", 4, api.ErrForm},
		wrongCase{head, 4, api.ErrCount},
		wrongCase{strings.TrimSuffix(head, "\n"), 4, api.ErrCount},
		wrongCase{head + "\n", 5, api.ErrCount},
		wrongCase{head + "c", 5, api.ErrCount},
	)
}

// Each line has a fault, and at least one other that the promise names behind it.
func TestD1TheFirstErrorOfALine(t *testing.T) {
	tryWrong(t,
		wrongCase{"p max " + beyond, 1, api.ErrForm},
		wrongCase{"p max " + beyond + " x", 1, api.ErrRange},
		wrongCase{"p max x " + beyond, 1, api.ErrForm},
		wrongCase{"p max 1 x", 1, api.ErrForm},
		wrongCase{"p max 3 1\np max " + beyond + " 1", 2, api.ErrForm},
		wrongCase{"p max 3 1\np max 1 1", 2, api.ErrForm},
		wrongCase{"n " + beyond + " s", 1, api.ErrForm},
		wrongCase{"p max 3 1\nn " + beyond + " x", 2, api.ErrForm},
		wrongCase{"p max 3 1\nn 1 s\nn " + beyond + " s", 3, api.ErrForm},
		wrongCase{"p max 3 1\nn 1 s\nn 4 s", 3, api.ErrForm},
		wrongCase{"p max 3 1\nn 1 t\nn 1 t", 3, api.ErrForm},
		wrongCase{"a 1 2 " + beyond, 1, api.ErrForm},
		wrongCase{"p max 3 0\nn 1 s\na 4 -1 " + beyond, 3, api.ErrForm},
		wrongCase{head + "a " + beyond + " 2", 4, api.ErrForm},
		wrongCase{head + "a " + beyond + " x x", 4, api.ErrRange},
		wrongCase{head + "a 1 " + beyond + " x", 4, api.ErrRange},
		wrongCase{head + "a x " + beyond + " 5", 4, api.ErrForm},
		wrongCase{head + "a 1 x " + beyond, 4, api.ErrForm},
		wrongCase{head + "a 4 2 x", 4, api.ErrForm},
		wrongCase{head + "a 4 2 " + beyond, 4, api.ErrRange},
		wrongCase{head + "a 1 0 -1", 4, api.ErrNode},
		wrongCase{head + "a 4 2 9223372036854775807", 4, api.ErrNode},
		wrongCase{head + "a 1 2 5\na 4 2 5", 5, api.ErrNode},
		wrongCase{head + "a 1 2 5\na 1 2 -1", 5, api.ErrRange},
		wrongCase{head + "a 1 2 5\na 1 2 9223372036854775807", 5, api.ErrCount},
	)
}

func TestD1TheFirstWrongLine(t *testing.T) {
	tryWrong(t,
		wrongCase{rows("p max 3 1", "n 4 s", "q", "n 1 s", "n 1 t"), 2, api.ErrNode},
		wrongCase{rows("p max 1 1", "q"), 1, api.ErrRange},
		wrongCase{rows("p max 3 1", "n 1 s", "n 1 t", "q"), 3, api.ErrSame},
		wrongCase{head + rows("a 1 2 -1", "a 4 2 5", "q"), 4, api.ErrRange},
		wrongCase{head + rows("a 1 2 5", "q", "a 1 2 5"), 5, api.ErrForm},
		wrongCase{rows("p max 3 2", "n 1 s", "n 3 t", "a 1 2 9223372036854775807", "a 4 2 5"), 4, api.ErrSum},
	)
}

// teller goes over a text by the promise's words alone, with numbers without bounds.
type teller struct {
	problem      bool
	nodes, arcs  int64
	source, sink int64
	told         []api.Arc
	sum          *big.Int
}

func (r *teller) line(words []string) api.Errno {
	shape := strings.Join(words, " ")
	switch {
	case len(words) == 0 || words[0] == "c":
		return api.OK
	case len(words) == 4 && strings.HasPrefix(shape, "p max ") && !r.problem:
		return r.numbers(words[2:], func(l []int64) api.Errno {
			if l[0] < 2 || l[0] > 500 || l[1] < 0 || l[1] > 2000 {
				return api.ErrRange
			}
			r.problem, r.nodes, r.arcs = true, l[0], l[1]
			return api.OK
		})
	case len(words) == 3 && words[0] == "n" && words[2] == "s" && r.problem && r.source == 0 && len(r.told) == 0:
		return r.numbers(words[1:2], func(l []int64) api.Errno { return r.end(l[0], &r.source, r.sink) })
	case len(words) == 3 && words[0] == "n" && words[2] == "t" && r.problem && r.sink == 0 && len(r.told) == 0:
		return r.numbers(words[1:2], func(l []int64) api.Errno { return r.end(l[0], &r.sink, r.source) })
	case len(words) == 4 && words[0] == "a" && r.problem && r.source != 0 && r.sink != 0:
		return r.numbers(words[1:], r.arc)
	}
	return api.ErrForm
}

func (r *teller) numbers(words []string, do func([]int64) api.Errno) api.Errno {
	var l []int64
	for _, w := range words {
		n, ok := new(big.Int).SetString(w, 10)
		switch {
		case !ok || w[0] == '+':
			return api.ErrForm
		case !n.IsInt64():
			return api.ErrRange
		}
		l = append(l, n.Int64())
	}
	return do(l)
}

func (r *teller) end(v int64, at *int64, other int64) api.Errno {
	switch {
	case v < 1 || v > r.nodes:
		return api.ErrNode
	case v == other:
		return api.ErrSame
	}
	*at = v
	return api.OK
}

func (r *teller) arc(l []int64) api.Errno {
	r.sum.Add(r.sum, big.NewInt(l[2]))
	switch {
	case l[0] < 1 || l[0] > r.nodes || l[1] < 1 || l[1] > r.nodes:
		return api.ErrNode
	case l[2] < 0:
		return api.ErrRange
	case int64(len(r.told)) == r.arcs:
		return api.ErrCount
	case r.sum.Cmp(big.NewInt(api.MaxSum)) > 0:
		return api.ErrSum
	}
	r.told = append(r.told, api.Arc{From: int(l[0]), To: int(l[1]), Cap: l[2]})
	return api.OK
}

func tell(s string) (api.Net, int, api.Errno) {
	r, at := teller{sum: new(big.Int)}, 0
	for line := range strings.SplitSeq(strings.TrimSuffix(s, "\n"), "\n") {
		if s == "" {
			break
		}
		at++
		words := strings.Split(strings.NewReplacer("\t", " ", "\r", " ").Replace(line), " ")
		words = slices.DeleteFunc(words, func(w string) bool { return w == "" })
		if e := r.line(words); e != api.OK {
			return api.Net{}, at, e
		}
	}
	switch {
	case !r.problem || r.source == 0 || r.sink == 0:
		return api.Net{}, at + 1, api.ErrForm
	case int64(len(r.told)) < r.arcs:
		return api.Net{}, at + 1, api.ErrCount
	}
	return api.Net{Nodes: int(r.nodes), Source: int(r.source), Sink: int(r.sink), Arcs: r.told}, 0, api.OK
}

func tryAsTold(t *testing.T, s string) {
	t.Helper()
	want, at, e := tell(s)
	if e == api.OK {
		tryRight(t, s, want)
	} else {
		tryWrong(t, wrongCase{s, at, e})
	}
}

// All texts of up to five of these lines, with a problem ahead of them or without one.
func TestD1ByTheWords(t *testing.T) {
	lines := []string{"p max 2 1", "p max 3 2", "n 1 s", "n 2 t", "n 1 t", "n 3 s", "a 1 2 4611686018427387903", "a 2 1 0", "a 3 3 1", "a 1 2 -1", "c", "q"}
	all := []string{"", "p max 3 2\n"}
	for range 4 {
		var next []string
		for _, s := range all {
			tryAsTold(t, s)
			for _, line := range lines {
				next = append(next, s+line+"\n")
			}
		}
		all = next
	}
	for _, s := range all {
		tryAsTold(t, s)
		tryAsTold(t, strings.TrimSuffix(s, "\n"))
		tryAsTold(t, "n 1 s\n"+s)
	}
}

// P1: a right text with one byte lost, put in, or changed, is read, or told to be wrong.
func TestD1OneByteOff(t *testing.T) {
	s := "c\np max 12 3\nn 1 s\nn 10 t\na 1 2 5\n\na 2 10 4611686018427387897\na 3 3 1\n"
	tryAsTold(t, s)
	for i := range len(s) + 1 {
		tryAsTold(t, s[:i])
		tryAsTold(t, s[i:])
		if i < len(s) {
			tryAsTold(t, s[:i]+s[i+1:])
		}
		for b := range 256 {
			tryAsTold(t, s[:i]+string([]byte{byte(b)})+s[i:])
			if i < len(s) {
				tryAsTold(t, s[:i]+string([]byte{byte(b)})+s[i+1:])
			}
		}
	}
}

// P1: great texts have an end, too.
func TestD1GreatTexts(t *testing.T) {
	const many = 1 << 20
	good := head + "a 1 2 5\n"
	one := network(3, api.Arc{From: 1, To: 2, Cap: 5})
	tryRight(t, strings.Repeat("\n", many)+good, one)
	tryRight(t, good+strings.Repeat("c\n", many), one)
	tryRight(t, "c"+strings.Repeat(" p", many)+"\n"+good, one)
	tryRight(t, strings.Repeat(" ", many)+good, one)
	tryRight(t, head+"a 1 2 "+strings.Repeat("0", many)+"5\n", one)
	tryWrong(t,
		wrongCase{strings.Repeat("\n", many), many + 1, api.ErrForm},
		wrongCase{strings.Repeat("c\n", many) + "q", many + 1, api.ErrForm},
		wrongCase{strings.Repeat("p ", many), 1, api.ErrForm},
		wrongCase{strings.Repeat("p", many), 1, api.ErrForm},
		wrongCase{good + strings.Repeat("a 1 2 5\n", many), 5, api.ErrCount},
		wrongCase{"p max " + strings.Repeat("9", many) + " 1\n", 1, api.ErrRange},
	)
}

// P3 and P4: a text is read the same again, whatever was read or written into between.
func TestD1KeepsNothing(t *testing.T) {
	s := rows("p max 3 2", "n 1 s", "n 3 t", "a 1 2 5", "a 2 3 4")
	want := network(3, api.Arc{From: 1, To: 2, Cap: 5}, api.Arc{From: 2, To: 3, Cap: 4})
	first, _, _ := Parse(s)
	second, _, _ := Parse(s)
	clear(first.Arcs)
	_ = append(first.Arcs, api.Arc{From: 9})
	tryWrong(t, wrongCase{"", 1, api.ErrForm}, wrongCase{head, 4, api.ErrCount})
	if !net.Same(second, want) {
		t.Error(second)
	}
	tryRight(t, s, want)
}

func tryPrint(t *testing.T, n api.Net, want string, e api.Errno) {
	t.Helper()
	if s, f := Print(n); s != want || f != e {
		t.Errorf("Print(%v): %.300q, %d; want %.300q, %d", n, s, f, want, e)
	}
}

func TestD2Print(t *testing.T) {
	tryPrint(t, network(2, api.Arc{From: 1, To: 2, Cap: 5}), "p max 2 1\nn 1 s\nn 2 t\na 1 2 5\n", api.OK)
	tryPrint(t, network(2), "p max 2 0\nn 1 s\nn 2 t\n", api.OK)
	tryPrint(t, api.Net{Nodes: 500, Source: 500, Sink: 499, Arcs: []api.Arc{}}, "p max 500 0\nn 500 s\nn 499 t\n", api.OK)
	tryPrint(t, api.Net{Nodes: 12, Source: 11, Sink: 10, Arcs: []api.Arc{
		{From: 12, To: 12, Cap: 4611686018427387902},
		{From: 10, To: 11},
		{From: 10, To: 11},
		{From: 1, To: 2, Cap: 1},
	}}, "p max 12 4\nn 11 s\nn 10 t\na 12 12 4611686018427387902\na 10 11 0\na 10 11 0\na 1 2 1\n", api.OK)
	many := slices.Repeat([]api.Arc{{From: 2, To: 1, Cap: 7}}, 2000)
	tryPrint(t, network(2, many...), "p max 2 2000\nn 1 s\nn 2 t\n"+strings.Repeat("a 2 1 7\n", 2000), api.OK)
}

// wrongNets have each of the faults that a network may have.
func wrongNets() []api.Net {
	arc := api.Arc{From: 1, To: 2, Cap: 5}
	return []api.Net{
		{},
		network(1),
		network(501),
		{Nodes: least, Source: most, Sink: least},
		{Nodes: 2, Source: 0, Sink: 2},
		{Nodes: 2, Source: 1, Sink: 3},
		{Nodes: 2, Source: 2, Sink: 2},
		network(2, slices.Repeat([]api.Arc{arc}, 2001)...),
		network(2, arc, api.Arc{From: 3, To: 1}),
		network(2, arc, api.Arc{From: 1, To: 0}),
		network(2, arc, api.Arc{From: 1, To: 2, Cap: -1}),
		network(2, arc, api.Arc{From: 1, To: 2, Cap: api.MaxSum}),
		network(2, arc, api.Arc{From: 1, To: 2, Cap: most}),
	}
}

func TestD2WrongNetworks(t *testing.T) {
	for _, n := range wrongNets() {
		tryPrint(t, n, "", api.ErrArg)
	}
}

// P3 and P4: what is printed is not written into, what lies behind the arcs is not read, and an error leaves nothing behind.
func TestD2KeepsNothing(t *testing.T) {
	all := []api.Arc{{From: 1, To: 2, Cap: 5}, {From: 2, To: 3, Cap: 4}, {From: 9, To: 9, Cap: -9}}
	kept := slices.Clone(all)
	n := network(3, all[:2]...)
	for range 3 {
		tryPrint(t, n, "p max 3 2\nn 1 s\nn 3 t\na 1 2 5\na 2 3 4\n", api.OK)
		tryPrint(t, network(3, all...), "", api.ErrArg)
	}
	if !slices.Equal(all, kept) || n.Nodes != 3 || n.Source != 1 || n.Sink != 3 || len(n.Arcs) != 2 {
		t.Error(n, all)
	}
}

// rightNets are networks of all sizes, with arcs from everywhere to everywhere.
func rightNets() []api.Net {
	l := []api.Net{
		network(2),
		network(500, api.Arc{From: 500, To: 1, Cap: api.MaxSum}),
		network(2, slices.Repeat([]api.Arc{{From: 1, To: 2, Cap: api.MaxSum / 2000}}, 2000)...),
	}
	for i := range 60 {
		nodes := 2 + i*i%499
		n := api.Net{Nodes: nodes, Source: 1 + i%nodes, Sink: 1 + (i+1)%nodes}
		for k := range i * 33 {
			n.Arcs = append(n.Arcs, api.Arc{From: 1 + k*7%nodes, To: 1 + k*k%nodes, Cap: int64(k) * int64(k) << (k % 30)})
		}
		l = append(l, n)
	}
	return l
}

func TestD3WhatIsPrintedIsParsedAsItWas(t *testing.T) {
	for _, n := range rightNets() {
		s, e := Print(n)
		if e != api.OK {
			t.Fatal(n, e)
		}
		tryRight(t, s, n)
		if lines := strings.Count(s, "\n"); lines != 3+len(n.Arcs) || !strings.HasSuffix(s, "\n") {
			t.Error(lines, len(n.Arcs))
		}
	}
}

// What is parsed is right, and is printed by the plainest text that says the same.
func TestD3WhatIsParsedIsRight(t *testing.T) {
	for _, s := range []string{
		head + "a 1 2 5",
		" p\tmax 04 3\r\nn 4 t\n n 1 s\n\na 1 2 05\na 2 4 -0\nc a 1\na 3 3 4611686018427387898",
		"c\nc\np max 500 1\nn 500 s\nn 2 t\na 500 500 4611686018427387903\n",
		"p max 2 0\nn 2 s\nn 1 t",
		"p max 2 2000\nn 1 s\nn 2 t\n" + strings.Repeat("\na 1 2 2305843009213693\r\n", 2000),
	} {
		n, at, e := Parse(s)
		if at != 0 || e != api.OK || net.Check(n) != api.OK {
			t.Errorf("Parse(%.300q): %v, %d, %d", s, n, at, e)
		}
		again, e := Print(n)
		if e != api.OK {
			t.Error(n, e)
		}
		tryRight(t, again, n)
		tryPrint(t, n, again, api.OK)
	}
}
