package dimacs

import (
	"raceway/api"
	"raceway/text"
)

// reader holds what the lines so far have said: Nodes, Source and Sink are 0 until one says them, as no right one is 0.
type reader struct {
	made api.Net
	arcs int   // as many as the problem says
	sum  int64 // of all capacities so far
}

// kind is one of the lines that say something.
type kind struct {
	words []string // number stands for any word
	may   func(*reader) bool
	do    func(*reader, []int64) api.Errno
}

// number is like no word of a line, since none of these is empty.
const number = ""

func kinds() []kind {
	return []kind{
		{[]string{"p", "max", number, number}, (*reader).mayProblem, (*reader).problem},
		{[]string{"n", number, "s"}, (*reader).maySource, (*reader).source},
		{[]string{"n", number, "t"}, (*reader).maySink, (*reader).sink},
		{[]string{"a", number, number, number}, (*reader).mayArc, (*reader).arc},
	}
}

func (r *reader) line(line string) api.Errno {
	words := text.Words(line)
	if len(words) == 0 || words[0] == "c" {
		return api.OK
	}
	for _, k := range kinds() {
		if !k.fits(words) {
			continue
		}
		if !k.may(r) {
			return api.ErrForm
		}
		l, e := k.numbers(words)
		if e != api.OK {
			return e
		}
		return k.do(r, l)
	}
	return api.ErrForm
}

// end looks after what must have been said when there are no more lines.
func (r *reader) end() api.Errno {
	switch {
	// Without a problem there is neither of them.
	case r.made.Source == 0 || r.made.Sink == 0:
		return api.ErrForm
	case len(r.made.Arcs) < r.arcs:
		return api.ErrCount
	}
	return api.OK
}

func (k kind) fits(words []string) bool {
	if len(words) != len(k.words) {
		return false
	}
	for i, w := range k.words {
		if w != number && w != words[i] {
			return false
		}
	}
	return true
}

func (k kind) numbers(words []string) ([]int64, api.Errno) {
	var l []int64
	for i, w := range k.words {
		if w != number {
			continue
		}
		n, e := text.Number(words[i])
		if e != api.OK {
			return nil, e
		}
		l = append(l, n)
	}
	return l, api.OK
}

func (r *reader) mayProblem() bool { return r.made.Nodes == 0 }

// An arc needs source and sink ahead of it, so that neither of them can come behind one.
func (r *reader) maySource() bool { return r.made.Nodes != 0 && r.made.Source == 0 }

func (r *reader) maySink() bool { return r.made.Nodes != 0 && r.made.Sink == 0 }

func (r *reader) mayArc() bool { return r.made.Source != 0 && r.made.Sink != 0 }

func (r *reader) problem(l []int64) api.Errno {
	nodes, arcs := l[0], l[1]
	if nodes < 2 || nodes > api.MaxNodes || arcs < 0 || arcs > api.MaxArcs {
		return api.ErrRange
	}
	r.made.Nodes, r.arcs = int(nodes), int(arcs)
	return api.OK
}

func (r *reader) source(l []int64) api.Errno { return r.place(&r.made.Source, l[0]) }

func (r *reader) sink(l []int64) api.Errno { return r.place(&r.made.Sink, l[0]) }

func (r *reader) place(at *int, v int64) api.Errno {
	if !r.isNode(v) {
		return api.ErrNode
	}
	*at = int(v)
	if r.made.Source == r.made.Sink {
		return api.ErrSame
	}
	return api.OK
}

func (r *reader) arc(l []int64) api.Errno {
	from, to, capacity := l[0], l[1], l[2]
	switch {
	case !r.isNode(from) || !r.isNode(to):
		return api.ErrNode
	case capacity < 0:
		return api.ErrRange
	case len(r.made.Arcs) == r.arcs:
		return api.ErrCount
	// The sum itself might go round.
	case capacity > api.MaxSum-r.sum:
		return api.ErrSum
	}
	r.made.Arcs = append(r.made.Arcs, api.Arc{From: int(from), To: int(to), Cap: capacity})
	r.sum += capacity
	return api.OK
}

func (r *reader) isNode(v int64) bool { return v >= 1 && v <= int64(r.made.Nodes) }
