package splay

import (
	"math"
	"slices"
	"testing"

	"raceway/api"
	"raceway/num"
)

const (
	most    = math.MaxInt64
	lowest  = math.MinInt64
	highest = 1 << 62 // of the values that there may be
)

// noItems are none in a forest of so many.
func noItems(count int) []int { return []int{lowest, -count, -2, -1, count, count + 1, 1 << 32, most} }

func of(t *testing.T, values ...int64) *Forest {
	t.Helper()
	s, e := New(values)
	if s == nil || e != api.OK {
		t.Fatalf("New of %d values: %d", len(values), e)
	}
	return s
}

// oneRow is a forest whose items stand in one row, in their order.
func oneRow(t *testing.T, values ...int64) *Forest {
	t.Helper()
	s := of(t, values...)
	for x := 1; x < len(values); x++ {
		tryErrno(t, "Join", s.Join(x-1, x), api.OK)
	}
	return s
}

func tryErrno(t *testing.T, call string, got, want api.Errno) {
	t.Helper()
	if got != want {
		t.Errorf("%s: %d; want %d", call, got, want)
	}
}

func tryNumber(t *testing.T, call string, got, want int) {
	t.Helper()
	if got != want {
		t.Errorf("%s: %d; want %d", call, got, want)
	}
}

// tryRow asks each item of a row for all that is told of it.
func tryRow(t *testing.T, s *Forest, row ...int) {
	t.Helper()
	for place, x := range row {
		if got := s.Row(x); !slices.Equal(got, row) {
			t.Errorf("Row(%d): %d; want %d", x, got, row)
		}
		tryNumber(t, "First", s.First(x), row[0])
		tryNumber(t, "Last", s.Last(x), row[len(row)-1])
		tryNumber(t, "Place", s.Place(x), place)
		tryNumber(t, "At", s.At(row[0], place), x)
		for _, beyond := range []int{lowest, -1, len(row), len(row) + 1, most} {
			tryNumber(t, "At, beyond the row", s.At(x, beyond), -1)
		}
	}
}

func tryValues(t *testing.T, s *Forest, values ...int64) {
	t.Helper()
	for x, value := range values {
		if got := s.Value(x); got != value {
			t.Errorf("Value(%d): %d; want %d", x, got, value)
		}
	}
}

func TestS1New(t *testing.T) {
	full := slices.Repeat([]int64{highest, -highest}, 1500)
	tooGreat, tooSmall := slices.Clone(full), slices.Clone(full)
	tooGreat[2999], tooSmall[2999] = highest+1, -highest-1
	for i, c := range []struct {
		values []int64
		e      api.Errno
	}{
		{nil, api.OK},
		{[]int64{}, api.OK},
		{[]int64{0}, api.OK},
		{[]int64{highest}, api.OK},
		{[]int64{-highest}, api.OK},
		{[]int64{highest, -highest, 7}, api.OK},
		{full, api.OK},
		{[]int64{highest + 1}, api.ErrRange},
		{[]int64{-highest - 1}, api.ErrRange},
		{[]int64{most}, api.ErrRange},
		{[]int64{lowest}, api.ErrRange},
		{[]int64{most, 0, 0}, api.ErrRange},
		{[]int64{0, lowest, 0}, api.ErrRange},
		{tooGreat, api.ErrRange},
		{tooSmall, api.ErrRange},
		{append(full, 0), api.ErrArg},
		{append(full, highest+1), api.ErrArg},
		{append(tooGreat, 0), api.ErrArg},
		{slices.Repeat([]int64{lowest}, 3001), api.ErrArg},
		{make([]int64, 100000), api.ErrArg},
	} {
		s, e := New(c.values)
		if e != c.e || (s != nil) != (e == api.OK) {
			t.Errorf("New %d: %v, %d; want %d", i, s != nil, e, c.e)
		}
		for x := 0; s != nil && x < len(c.values); x++ {
			tryRow(t, s, x)
			tryNumber(t, "Least", s.Least(x), x)
		}
		if s != nil {
			tryValues(t, s, c.values...)
		}
	}
}

func TestS1OfRows(t *testing.T) {
	s := of(t, 5, -3, 8, 0, 9, highest)
	s.Join(4, 2)
	s.Join(0, 5)
	s.Join(2, 0)
	s.Join(3, 1)
	for range 2 {
		tryRow(t, s, 4, 2, 0, 5)
		tryRow(t, s, 3, 1)
		tryValues(t, s, 5, -3, 8, 0, 9, highest)
	}
	s.Turn(0)
	tryRow(t, s, 5, 0, 2, 4)
	tryNumber(t, "At", s.At(4, 1), 0)
	tryNumber(t, "At", s.At(5, 3), 4)
	tryNumber(t, "At", s.At(1, 0), 3)
	tryNumber(t, "At", s.At(1, 2), -1)
}

// tryNoItem asks for an item that there is not, alone and beside one that there is.
func tryNoItem(t *testing.T, s *Forest, x int, items ...int) {
	t.Helper()
	if row := s.Row(x); len(row) != 0 {
		t.Errorf("Row(%d): %d", x, row)
	}
	tryNumber(t, "First", s.First(x), -1)
	tryNumber(t, "Last", s.Last(x), -1)
	tryNumber(t, "Place", s.Place(x), -1)
	tryNumber(t, "Least", s.Least(x), -1)
	for _, place := range []int{lowest, -1, 0, 1, most} {
		tryNumber(t, "At", s.At(x, place), -1)
	}
	if value := s.Value(x); value != 0 {
		t.Errorf("Value(%d): %d", x, value)
	}
	for _, other := range append(items, x, -1, most) {
		tryErrno(t, "Join", s.Join(x, other), api.ErrNode)
		tryErrno(t, "Join", s.Join(other, x), api.ErrNode)
	}
	tryErrno(t, "Split", s.Split(x), api.ErrNode)
	s.Turn(x)
	for _, d := range []int64{lowest, -1, 0, 1, most} {
		tryErrno(t, "Add", s.Add(x, d), api.ErrNode)
	}
}

func TestS1S2S3NoItem(t *testing.T) {
	for _, x := range append(noItems(0), 0, 1) {
		tryNoItem(t, of(t), x)
	}
	s := of(t, 4, 2, 3)
	s.Join(2, 0)
	for _, x := range noItems(3) {
		tryNoItem(t, s, x, 0, 1, 2)
		tryRow(t, s, 2, 0)
		tryRow(t, s, 1)
		tryValues(t, s, 4, 2, 3)
	}
	full := oneRow(t, make([]int64, 3000)...)
	for _, x := range noItems(3000) {
		tryNoItem(t, full, x, 0, 2999)
	}
	if full.Place(2999) != 2999 || full.Last(0) != 2999 {
		t.Error(full.Place(2999), full.Last(0))
	}
}

func TestS2Example(t *testing.T) {
	s := of(t, 0, 0, 0)
	tryErrno(t, "Join(0, 1)", s.Join(0, 1), api.OK)
	tryErrno(t, "Join(0, 2)", s.Join(0, 2), api.OK)
	s.Turn(1)
	tryRow(t, s, 2, 1, 0)
}

// Which items of the rows are named is all the same.
func TestS2Join(t *testing.T) {
	for _, a := range []int{3, 1, 4} {
		for _, b := range []int{0, 2} {
			s := of(t, 1, 2, 3, 4, 5, 6)
			s.Join(3, 1)
			s.Join(1, 4)
			s.Join(2, 0)
			tryErrno(t, "Join", s.Join(a, b), api.OK)
			tryRow(t, s, 3, 1, 4, 2, 0)
			tryRow(t, s, 5)
			tryErrno(t, "Join", s.Join(5, a), api.OK)
			tryRow(t, s, 5, 3, 1, 4, 2, 0)
			tryValues(t, s, 1, 2, 3, 4, 5, 6)
		}
	}
}

func TestS2JoinTurnedRows(t *testing.T) {
	s := oneRow(t, 1, 2, 3)
	s.Split(1)
	s.Turn(1)
	tryErrno(t, "Join", s.Join(0, 2), api.OK)
	tryRow(t, s, 0, 2, 1)
	s.Turn(2)
	s.Split(2)
	s.Turn(0)
	tryErrno(t, "Join", s.Join(0, 1), api.OK)
	tryRow(t, s, 0, 2, 1)
}

func TestS2JoinOfOneRow(t *testing.T) {
	s := of(t, 1, 2, 3, 4, 5)
	s.Join(2, 1)
	s.Join(1, 4)
	for _, a := range []int{2, 1, 4} {
		for _, b := range []int{2, 1, 4} {
			tryErrno(t, "Join", s.Join(a, b), api.ErrSame)
			tryRow(t, s, 2, 1, 4)
		}
	}
	for x := range 5 {
		tryErrno(t, "Join", s.Join(x, x), api.ErrSame)
	}
	tryRow(t, s, 0)
	tryRow(t, s, 3)
	tryValues(t, s, 1, 2, 3, 4, 5)
}

func TestS2Split(t *testing.T) {
	for x := range 5 {
		for _, turned := range []bool{false, true} {
			s, row := oneRow(t, 5, 4, 3, 2, 1), []int{0, 1, 2, 3, 4}
			if turned {
				s.Turn(2)
				slices.Reverse(row)
			}
			place := slices.Index(row, x)
			tryErrno(t, "Split", s.Split(x), api.OK)
			tryRow(t, s, row[:place]...)
			tryRow(t, s, row[place:]...)
			tryErrno(t, "Split", s.Split(x), api.OK)
			tryRow(t, s, row[:place]...)
			tryRow(t, s, row[place:]...)
			tryValues(t, s, 5, 4, 3, 2, 1)
		}
	}
}

func TestS2SplitAtTheFirst(t *testing.T) {
	s := of(t, 7, 8)
	tryErrno(t, "Split", s.Split(0), api.OK)
	tryRow(t, s, 0)
	tryRow(t, s, 1)
	s.Join(1, 0)
	tryErrno(t, "Split", s.Split(1), api.OK)
	tryRow(t, s, 1, 0)
	s.Turn(0)
	tryErrno(t, "Split", s.Split(0), api.OK)
	tryRow(t, s, 0, 1)
	tryErrno(t, "Split", s.Split(1), api.OK)
	tryRow(t, s, 0)
	tryRow(t, s, 1)
}

func TestS2Turn(t *testing.T) {
	for x := range 4 {
		s := oneRow(t, 1, 2, 3, 4, 5)
		s.Split(4)
		s.Turn(x)
		tryRow(t, s, 3, 2, 1, 0)
		tryRow(t, s, 4)
		s.Turn(4)
		tryRow(t, s, 3, 2, 1, 0)
		tryRow(t, s, 4)
		tryValues(t, s, 1, 2, 3, 4, 5)
	}
}

func TestS3Add(t *testing.T) {
	s := oneRow(t, 5, -2, 0, 9, 1)
	s.Split(3)
	tryErrno(t, "Add", s.Add(1, 10), api.OK)
	tryValues(t, s, 15, 8, 10, 9, 1)
	tryErrno(t, "Add", s.Add(4, -3), api.OK)
	tryValues(t, s, 15, 8, 10, 6, -2)
	tryErrno(t, "Add", s.Add(0, 0), api.OK)
	s.Join(4, 0)
	tryErrno(t, "Add", s.Add(2, -8), api.OK)
	tryValues(t, s, 7, 0, 2, -2, -10)
	s.Split(1)
	s.Turn(0)
	tryErrno(t, "Add", s.Add(3, 100), api.OK)
	tryRow(t, s, 0, 4, 3)
	tryRow(t, s, 1, 2)
	tryValues(t, s, 107, 0, 2, 98, 90)
}

// What was added before a row was cut, joined or turned stays with the items, and comes to no others.
func TestS3AddAheadOfOtherCalls(t *testing.T) {
	s := oneRow(t, 0, 0, 0, 0)
	s.Add(2, 1)
	s.Split(2)
	s.Turn(0)
	s.Add(0, 10)
	s.Join(3, 0)
	s.Add(1, 100)
	s.Turn(3)
	s.Split(1)
	s.Add(1, 1000)
	s.Join(1, 0)
	s.Add(0, -1)
	tryValues(t, s, 110, 1110, 1100, 1100)
	tryRow(t, s, 1, 3, 2, 0)
}

func tryAdd(t *testing.T, s *Forest, x int, d int64, want api.Errno) {
	t.Helper()
	if e := s.Add(x, d); e != want {
		t.Errorf("Add(%d, %d): %d; want %d", x, d, e, want)
	}
}

func TestS3AddBeyondChangesNothing(t *testing.T) {
	s := oneRow(t, 3, -highest, 7, highest-1, highest, 0)
	s.Split(3)
	s.Split(5)
	for range 2 {
		for _, d := range []int64{lowest, -highest, -1, highest, most} {
			tryAdd(t, s, 0, d, api.ErrRange)
			tryAdd(t, s, 2, d, api.ErrRange)
		}
		for _, d := range []int64{lowest, 1, highest, most} {
			tryAdd(t, s, 3, d, api.ErrRange)
		}
		for _, d := range []int64{lowest, -highest - 1, highest + 1, most} {
			tryAdd(t, s, 5, d, api.ErrRange)
		}
		tryValues(t, s, 3, -highest, 7, highest-1, highest, 0)
		tryRow(t, s, 0, 1, 2)
		tryRow(t, s, 3, 4)
		s.Turn(1)
		s.Turn(1)
	}
	tryNumber(t, "Least", s.Least(2), 1)
	tryNumber(t, "Least", s.Least(4), 3)
}

// The bounds themselves may be reached, from one to the other, by a number that is as small as there is.
func TestS3AddToTheBounds(t *testing.T) {
	s := of(t, highest, highest-5, highest)
	s.Join(0, 1)
	s.Join(1, 2)
	tryAdd(t, s, 0, lowest, api.ErrRange)
	tryAdd(t, s, 0, lowest+5, api.OK)
	tryValues(t, s, -highest+5, -highest, -highest+5)
	tryAdd(t, s, 1, -1, api.ErrRange)
	tryAdd(t, s, 1, most, api.ErrRange)
	tryAdd(t, s, 1, most-4, api.OK)
	tryValues(t, s, highest, highest-5, highest)
	equal := oneRow(t, highest, highest, highest)
	tryAdd(t, equal, 2, lowest, api.OK)
	tryAdd(t, equal, 2, -1, api.ErrRange)
	tryAdd(t, equal, 2, most, api.OK)
	tryAdd(t, equal, 2, 2, api.ErrRange)
	tryAdd(t, equal, 2, 1, api.OK)
	tryAdd(t, equal, 2, lowest, api.OK)
	tryNumber(t, "Least", equal.Least(1), 0)
	tryValues(t, equal, -highest, -highest, -highest)
}

func TestS3Least(t *testing.T) {
	s := oneRow(t, 4, 2, 7, 2, 9, 2, 0)
	s.Split(6)
	for x := range 6 {
		tryNumber(t, "Least", s.Least(x), 1)
	}
	tryNumber(t, "Least of one", s.Least(6), 6)
	s.Turn(4)
	for x := range 6 {
		tryNumber(t, "Least, turned", s.Least(x), 5)
	}
	s.Split(4)
	tryNumber(t, "Least, cut", s.Least(5), 5)
	tryNumber(t, "Least, cut", s.Least(4), 3)
	s.Add(3, -1)
	s.Join(5, 4)
	tryNumber(t, "Least, joined", s.Least(5), 3)
	s.Join(6, 0)
	tryNumber(t, "Least, behind", s.Least(2), 6)
	tryRow(t, s, 6, 5, 4, 3, 2, 1, 0)
}

func TestS3LeastAtTheBounds(t *testing.T) {
	s := oneRow(t, highest, -highest, highest, -highest)
	for x := range 4 {
		tryNumber(t, "Least", s.Least(x), 1)
	}
	s.Turn(0)
	tryNumber(t, "Least", s.Least(0), 3)
	equal := oneRow(t, make([]int64, 3000)...)
	tryNumber(t, "Least", equal.Least(1234), 0)
	equal.Turn(99)
	tryNumber(t, "Least", equal.Least(0), 2999)
}

// calls are one of each but Row, with an item and another one.
func calls() []func(s *Forest, x, y int) {
	return []func(s *Forest, x, y int){
		func(s *Forest, x, _ int) { s.First(x) },
		func(s *Forest, x, _ int) { s.Last(x) },
		func(s *Forest, x, y int) { s.At(x, y) },
		func(s *Forest, x, _ int) { s.At(x, -1) },
		func(s *Forest, x, _ int) { s.Place(x) },
		func(s *Forest, x, _ int) { s.Value(x) },
		func(s *Forest, x, y int) { s.Join(x, y) },
		func(s *Forest, x, _ int) { s.Join(x, x) },
		func(s *Forest, x, _ int) { s.Split(x) },
		func(s *Forest, x, _ int) { s.Turn(x) },
		func(s *Forest, x, _ int) { s.Add(x, 1) },
		func(s *Forest, x, _ int) { s.Add(x, most) },
		func(s *Forest, x, _ int) { s.Least(x) },
	}
}

func TestS4AtLeastOneStepACall(t *testing.T) {
	s := of(t, 1, 1, 1, 1)
	for round := range 20 {
		for i, call := range calls() {
			before := s.Steps()
			call(s, round%4, (round/4+i)%4)
			if s.Steps() <= before {
				t.Errorf("call %d of round %d took no step", i, round)
			}
		}
		before := s.Steps()
		if s.Steps() != before {
			t.Error(s.Steps(), before)
		}
	}
}

func trySteps(t *testing.T, s *Forest, items, count int) {
	t.Helper()
	if limit := 100 * int64(2+count) * int64(2+num.Log(int64(items))); s.Steps() > limit {
		t.Fatalf("%d items, %d calls: %d steps; at most %d", items, count, s.Steps(), limit)
	}
}

func TestS4FewItems(t *testing.T) {
	trySteps(t, of(t), 0, 0)
	for items := 1; items <= 9; items++ {
		s, count := of(t, make([]int64, items)...), 0
		for round := range 300 {
			for i, call := range calls() {
				call(s, round%items, (round/items+i)%items)
				count++
				trySteps(t, s, items, count)
			}
		}
	}
}

// deep is a row of as many items as there may be that were lifted one behind the other, by two calls, so that the first one stands as deep as one can even where one of them does not lift.
func deep(t *testing.T) (*Forest, int) {
	s := oneRow(t, make([]int64, 3000)...)
	s.Add(0, 5)
	s.Split(1)
	s.Add(0, -1)
	s.Join(0, 1)
	for x := range 3000 {
		s.Place(x)
	}
	for x := range 3000 {
		s.Value(x)
	}
	return s, 9003
}

// One and the same call of the deepest item, and of the highest one: whoever does not lift where the way went needs the whole row each time.
func TestS4TheSameCallAgain(t *testing.T) {
	for _, call := range calls() {
		for _, turned := range []bool{false, true} {
			for _, ends := range [][]int{{2999, 2999}, {0, 2999}, {2999, 0}} {
				s, count := deep(t)
				if turned {
					s.Turn(0)
					s.Place(0)
					count += 2
				}
				for range 10000 {
					call(s, ends[0], ends[1])
					count++
				}
				trySteps(t, s, 3000, count)
			}
		}
	}
}

// Whoever lifts items by single rotations alone needs the whole row for each of these.
func TestS4OneBehindTheOther(t *testing.T) {
	for _, call := range calls() {
		s, count := deep(t)
		for round := range 6 {
			for x := range 3000 {
				call(s, x, x)
				count++
			}
			if round%2 == 1 {
				s.Turn(0)
				count++
			}
			trySteps(t, s, 3000, count)
		}
	}
}

func TestS4CutAndJoinedAgain(t *testing.T) {
	s, count := deep(t)
	for _, stride := range []int{1, 2999, 7919, 1500, 1741, 2} {
		for i := range 3000 {
			x := i * stride % 3000
			first := s.First(x)
			s.Split(x)
			if i%3 == 0 {
				s.Turn(x)
				count++
			}
			s.Join(x, first)
			count += 3
		}
		trySteps(t, s, 3000, count)
	}
}

// However often Row is asked, what the other calls may take stays as it is.
func TestS4RowIsNotCounted(t *testing.T) {
	s, count := deep(t)
	for range 4000 {
		if row := s.Row(0); len(row) != 3000 || row[0] != 0 {
			t.Fatal(len(row))
		}
	}
	trySteps(t, s, 3000, count)
	small := oneRow(t, 1, 2, 3)
	for range 10000 {
		small.Row(1)
	}
	trySteps(t, small, 3, 2)
}

func TestS5CutAndJoinedAgain(t *testing.T) {
	row := []int{0, 1, 2, 3, 4, 5, 6}
	s := oneRow(t, 4, 2, 7, 2, 9, 2, 0)
	for round := range 2 {
		for x := range 7 {
			first := s.First(x)
			s.Split(x)
			if first != x {
				tryErrno(t, "Join", s.Join(first, x), api.OK)
			}
			tryRow(t, s, row...)
			tryValues(t, s, 4, 2, 7, 2, 9, 2, 0)
			tryNumber(t, "Least", s.Least(x), 6)
		}
		if round == 0 {
			s.Turn(3)
			slices.Reverse(row)
		}
	}
}

func TestS5TurnedTwice(t *testing.T) {
	s := oneRow(t, 4, 2, 7, 2, 9)
	for x := range 5 {
		for y := range 5 {
			s.Turn(x)
			s.Turn(y)
			tryRow(t, s, 0, 1, 2, 3, 4)
			tryNumber(t, "Least", s.Least(x), 1)
		}
	}
	tryValues(t, s, 4, 2, 7, 2, 9)
}

// P3: what is handed in is neither kept nor written into, and nothing is read behind its length; each list is new.
func TestS1NothingIsKept(t *testing.T) {
	values := []int64{1, 2, 3, most, lowest}
	s, e := New(values[:3:5])
	tryErrno(t, "New", e, api.OK)
	s.Join(0, 1)
	s.Join(1, 2)
	s.Add(0, 10)
	if !slices.Equal(values, []int64{1, 2, 3, most, lowest}) {
		t.Error(values)
	}
	clear(values)
	for range 2 {
		row := s.Row(1)
		clear(row)
		_ = append(row[:1], 9, 9, 9, 9)
		tryRow(t, s, 0, 1, 2)
		tryValues(t, s, 11, 12, 13)
	}
}

// P4: forests know nothing of one another, not even if they are made of the same list.
func TestS1ForestsApart(t *testing.T) {
	values := []int64{3, 1, 2}
	a, b := of(t, values...), of(t, values...)
	a.Join(2, 0)
	a.Add(0, 5)
	a.Turn(0)
	tryRow(t, a, 0, 2)
	for x := range 3 {
		tryRow(t, b, x)
	}
	tryValues(t, b, 3, 1, 2)
	if steps := of(t, values...).Steps(); steps > 600 || a.Steps() <= of(t, values...).Steps() {
		t.Error(steps)
	}
}

// plainRows goes by the words: lists, and values one by one.
type plainRows struct {
	rows   [][]int
	values []int64
}

func plain(values []int64) *plainRows {
	p := &plainRows{values: slices.Clone(values)}
	for x := range values {
		p.rows = append(p.rows, []int{x})
	}
	return p
}

func (p *plainRows) row(x int) int {
	return slices.IndexFunc(p.rows, func(row []int) bool { return slices.Contains(row, x) })
}

func (p *plainRows) join(a, b int) api.Errno {
	i, k := p.row(a), p.row(b)
	switch {
	case i < 0 || k < 0:
		return api.ErrNode
	case i == k:
		return api.ErrSame
	}
	p.rows[i] = slices.Concat(p.rows[i], p.rows[k])
	p.rows = slices.Delete(p.rows, k, k+1)
	return api.OK
}

func (p *plainRows) split(x int) api.Errno {
	i := p.row(x)
	if i < 0 {
		return api.ErrNode
	}
	if place := slices.Index(p.rows[i], x); place > 0 {
		p.rows = append(p.rows, slices.Clone(p.rows[i][:place]))
		p.rows[i] = slices.Clone(p.rows[i][place:])
	}
	return api.OK
}

func (p *plainRows) turn(x int) {
	if i := p.row(x); i >= 0 {
		slices.Reverse(p.rows[i])
	}
}

func (p *plainRows) add(x int, d int64) api.Errno {
	i := p.row(x)
	if i < 0 {
		return api.ErrNode
	}
	for _, y := range p.rows[i] {
		if sum, e := num.Add(p.values[y], d); e != api.OK || sum < -highest || sum > highest {
			return api.ErrRange
		}
	}
	for _, y := range p.rows[i] {
		p.values[y] += d
	}
	return api.OK
}

func (p *plainRows) least(x int) int {
	row := p.rows[p.row(x)]
	found := row[0]
	for _, y := range row {
		if p.values[y] < p.values[found] {
			found = y
		}
	}
	return found
}

// change is a call that changes rows: the lists and the forest are to answer the same.
type change struct {
	kind, x, y int
	d          int64
}

func (c change) in(t *testing.T, p *plainRows, s *Forest) {
	t.Helper()
	switch c.kind {
	case 0:
		tryErrno(t, "Join", s.Join(c.x, c.y), p.join(c.x, c.y))
	case 1:
		tryErrno(t, "Split", s.Split(c.x), p.split(c.x))
	case 2:
		p.turn(c.x)
		s.Turn(c.x)
	default:
		tryErrno(t, "Add", s.Add(c.x, c.d), p.add(c.x, c.d))
	}
}

// tryLists asks for each row as it stands, and only then for what lifts items.
func tryLists(t *testing.T, p *plainRows, s *Forest) {
	t.Helper()
	for _, row := range p.rows {
		if got := s.Row(row[len(row)/2]); !slices.Equal(got, row) {
			t.Errorf("Row: %d; want %d", got, row)
		}
	}
	for _, row := range p.rows {
		tryNumber(t, "Least", s.Least(row[0]), p.least(row[0]))
		tryRow(t, s, row...)
		tryNumber(t, "Least", s.Least(row[0]), p.least(row[0]))
	}
	tryValues(t, s, p.values...)
}

// smallChanges are all that three items know, and some of items that there are not.
func smallChanges() []change {
	l := []change{{kind: 0, x: 3, y: 0}, {kind: 0, x: 0, y: 0}, {kind: 1, x: -1}, {kind: 3, x: 0, d: highest + 1}}
	for x := range 3 {
		for y := range 3 {
			if x != y {
				l = append(l, change{kind: 0, x: x, y: y})
			}
		}
		l = append(l, change{kind: 1, x: x}, change{kind: 2, x: x}, change{kind: 3, x: x, d: int64(2*x - 1)})
	}
	return l
}

func TestS1S2S3ByTheWords(t *testing.T) {
	l, values := smallChanges(), []int64{1, 0, 1}
	for code := range len(l) * len(l) * len(l) * len(l) {
		p, s := plain(values), of(t, values...)
		for range 4 {
			l[code%len(l)].in(t, p, s)
			code /= len(l)
		}
		trySteps(t, s, 3, 4)
		tryLists(t, p, s)
		if t.Failed() {
			t.Fatal(code)
		}
	}
}

// rule tells numbers that go by a rule.
type rule uint32

func (r *rule) below(n int) int {
	*r = *r*1664525 + 1013904223
	return int(*r>>8) % n
}

// ruledChange joins more often than it cuts, and now and then names an item that there is not.
func (r *rule) change(items int) change {
	c := change{kind: r.below(7), x: r.below(items), y: r.below(items), d: int64(r.below(41) - 20)}
	if c.kind >= 4 {
		c.kind = 0
	}
	switch r.below(50) {
	case 0:
		c.x = noItems(items)[r.below(8)]
	case 1:
		c.y = noItems(items)[r.below(8)]
	case 2:
		c.d = []int64{lowest, -highest, highest, most}[r.below(4)]
	}
	return c
}

func TestS1S2S3ByTheWordsOfGreaterForests(t *testing.T) {
	longest := 0
	for number := range 60 {
		items, r := 2+number, rule(number)
		values := make([]int64, items)
		for x := range values {
			values[x] = int64(r.below(9) - 4)
		}
		if number%5 == 0 {
			values[0], values[1] = highest, -highest
		}
		p, s := plain(values), of(t, values...)
		for i := range 400 {
			r.change(items).in(t, p, s)
			if i%(1+number%7) == 0 {
				tryLists(t, p, s)
			}
			for _, row := range p.rows {
				longest = max(longest, len(row))
			}
		}
		tryLists(t, p, s)
		if t.Failed() {
			t.Fatal(number)
		}
	}
	if longest < 20 {
		t.Error(longest)
	}
}
