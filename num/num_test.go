package num

import (
	"math"
	"math/big"
	"slices"
	"testing"

	"raceway/api"
)

const (
	most  = math.MaxInt64
	least = math.MinInt64
)

type pair func(a, b int64) (int64, api.Errno)

type pairCase struct {
	a, b, n int64
	e       api.Errno
}

func tryPairs(t *testing.T, f pair, cases []pairCase) {
	t.Helper()
	for _, c := range cases {
		if n, e := f(c.a, c.b); n != c.n || e != c.e {
			t.Errorf("of %d and %d: %d, %d; want %d, %d", c.a, c.b, n, e, c.n, c.e)
		}
	}
}

func TestN1Add(t *testing.T) {
	tryPairs(t, Add, []pairCase{
		{2, 3, 5, api.OK},
		{2, -3, -1, api.OK},
		{-2, -3, -5, api.OK},
		{0, 0, 0, api.OK},
		{most, 0, most, api.OK},
		{0, most, most, api.OK},
		{least, 0, least, api.OK},
		{0, least, least, api.OK},
		{most - 1, 1, most, api.OK},
		{least + 1, -1, least, api.OK},
		{most, least, -1, api.OK},
		{least, most, -1, api.OK},
		{-1 << 62, -1 << 62, least, api.OK},
		{1 << 62, 1<<62 - 1, most, api.OK},
		{1 << 62, 1 << 62, 0, api.ErrRange},
		{-1 << 62, -1<<62 - 1, 0, api.ErrRange},
		{most, 1, 0, api.ErrRange},
		{1, most, 0, api.ErrRange},
		{least, -1, 0, api.ErrRange},
		{-1, least, 0, api.ErrRange},
		{most, most, 0, api.ErrRange},
		{least, least, 0, api.ErrRange},
	})
}

func TestN1Sub(t *testing.T) {
	tryPairs(t, Sub, []pairCase{
		{2, 3, -1, api.OK},
		{3, 2, 1, api.OK},
		{-2, -3, 1, api.OK},
		{0, 0, 0, api.OK},
		{0, most, -most, api.OK},
		{-1, most, least, api.OK},
		{-1, least, most, api.OK},
		{least, least, 0, api.OK},
		{most, most, 0, api.OK},
		{least, 0, least, api.OK},
		{most, 0, most, api.OK},
		{-2, most, 0, api.ErrRange},
		{0, least, 0, api.ErrRange},
		{least, 1, 0, api.ErrRange},
		{most, -1, 0, api.ErrRange},
		{least, most, 0, api.ErrRange},
		{most, least, 0, api.ErrRange},
	})
}

func TestN1Mul(t *testing.T) {
	tryPairs(t, Mul, []pairCase{
		{6, 7, 42, api.OK},
		{6, -7, -42, api.OK},
		{-6, 7, -42, api.OK},
		{-6, -7, 42, api.OK},
		{0, least, 0, api.OK},
		{least, 0, 0, api.OK},
		{0, most, 0, api.OK},
		{most, 1, most, api.OK},
		{most, -1, -most, api.OK},
		{least, 1, least, api.OK},
		{1, least, least, api.OK},
		{1 << 32, -1 << 31, least, api.OK},
		{-1 << 31, 1 << 32, least, api.OK},
		{-1 << 62, 2, least, api.OK},
		{1 << 62, -2, least, api.OK},
		{3037000499, 3037000499, 9223372030926249001, api.OK},
		{3037000500, 3037000500, 0, api.ErrRange},
		{-3037000500, 3037000500, 0, api.ErrRange},
		{least, -1, 0, api.ErrRange},
		{-1, least, 0, api.ErrRange},
		{1 << 32, 1 << 31, 0, api.ErrRange},
		{-1 << 32, -1 << 31, 0, api.ErrRange},
		{1 << 32, 1 << 32, 0, api.ErrRange},
		{1 << 62, 2, 0, api.ErrRange},
		{-1 << 62, -2, 0, api.ErrRange},
		{most, most, 0, api.ErrRange},
		{least, least, 0, api.ErrRange},
		{most, least, 0, api.ErrRange},
	})
}

// edges are numbers near nought, near the powers of two, near the root of 2^63, and near both bounds.
func edges() []int64 {
	l := []int64{least, least + 1, most, most - 1}
	for k := range 63 {
		for d := int64(-2); d <= 2; d++ {
			l = append(l, 1<<k+d, -1<<k+d)
		}
	}
	for d := int64(0); d <= 1; d++ {
		l = append(l, 3037000499+d, -3037000499-d)
	}
	slices.Sort(l)
	return slices.Compact(l)
}

func TestN1AgainstBigNumbers(t *testing.T) {
	for name, c := range map[string]struct {
		f    pair
		want func(z, a, b *big.Int) *big.Int
	}{"Add": {Add, (*big.Int).Add}, "Sub": {Sub, (*big.Int).Sub}, "Mul": {Mul, (*big.Int).Mul}} {
		for _, a := range edges() {
			for _, b := range edges() {
				n, e := c.f(a, b)
				want := c.want(new(big.Int), big.NewInt(a), big.NewInt(b))
				if want.IsInt64() && (n != want.Int64() || e != api.OK) || !want.IsInt64() && (n != 0 || e != api.ErrRange) {
					t.Errorf("%s(%d, %d): %d, %d; want %v", name, a, b, n, e, want)
				}
			}
		}
	}
}

func TestN1Sum(t *testing.T) {
	for _, c := range []struct {
		l []int64
		n int64
		e api.Errno
	}{
		{nil, 0, api.OK},
		{[]int64{}, 0, api.OK},
		{[]int64{0}, 0, api.OK},
		{[]int64{7}, 7, api.OK},
		{[]int64{1, -2, 3}, 2, api.OK},
		{[]int64{most}, most, api.OK},
		{[]int64{least}, least, api.OK},
		{[]int64{most, -1, 1}, most, api.OK},
		{[]int64{least, 1, -1}, least, api.OK},
		{[]int64{most, least, 1}, 0, api.OK},
		{[]int64{most, most}, 0, api.ErrRange},
		{[]int64{most, 1}, 0, api.ErrRange},
		{[]int64{least, -1}, 0, api.ErrRange},
		{[]int64{1, 2, 3, most}, 0, api.ErrRange},
	} {
		if n, e := Sum(c.l); n != c.n || e != c.e {
			t.Errorf("Sum(%d): %d, %d; want %d, %d", c.l, n, e, c.n, c.e)
		}
	}
}

// The whole of each of these rows is in bounds, but not what is added on the way.
func TestN1SumEndsWithTheFirstError(t *testing.T) {
	for _, l := range [][]int64{
		{most, 1, -1},
		{1, most, -1},
		{least, -1, 1},
		{most, 1, least, 5},
		{most, most, least, least, 2},
	} {
		if n, e := Sum(l); n != 0 || e != api.ErrRange {
			t.Errorf("Sum(%d): %d, %d", l, n, e)
		}
	}
}

func TestN1SumOfALongRow(t *testing.T) {
	l := make([]int64, 1<<20)
	for i := range l {
		l[i] = int64(i)
	}
	if n, e := Sum(l); n != 1<<19*(1<<20-1) || e != api.OK {
		t.Error(n, e)
	}
	l[len(l)-1] = most
	if n, e := Sum(l); n != 0 || e != api.ErrRange {
		t.Error(n, e)
	}
}

// P3 and P4: the row stays as it is, what lies behind it is not read, and an error leaves nothing behind.
func TestN1SumKeepsNothing(t *testing.T) {
	all := []int64{most, -1, 2, most}
	kept := slices.Clone(all)
	for range 3 {
		if n, e := Sum(all[:2]); n != most-1 || e != api.OK {
			t.Error(n, e)
		}
		if n, e := Sum(all); n != 0 || e != api.ErrRange {
			t.Error(n, e)
		}
	}
	if !slices.Equal(all, kept) {
		t.Error(all)
	}
}

func TestN2Log(t *testing.T) {
	for _, c := range []struct {
		n    int64
		want int
	}{
		{least, 0}, {-2, 0}, {-1, 0}, {0, 0}, {1, 0}, {2, 1}, {3, 2}, {4, 2}, {5, 3}, {7, 3}, {8, 3}, {9, 4},
		{500, 9}, {512, 9}, {513, 10},
		{1<<62 - 1, 62}, {1 << 62, 62}, {1<<62 + 1, 63}, {most, 63},
	} {
		if k := Log(c.n); k != c.want {
			t.Errorf("Log(%d): %d; want %d", c.n, k, c.want)
		}
	}
}

func TestN2Floor(t *testing.T) {
	for _, c := range []struct{ n, want int64 }{
		{least, 0}, {-2, 0}, {-1, 0}, {0, 0}, {1, 1}, {2, 2}, {3, 2}, {4, 4}, {5, 4}, {7, 4}, {8, 8}, {9, 8},
		{500, 256}, {511, 256}, {512, 512},
		{1<<62 - 1, 1 << 61}, {1 << 62, 1 << 62}, {1<<62 + 1, 1 << 62}, {most, 1 << 62},
	} {
		if p := Floor(c.n); p != c.want {
			t.Errorf("Floor(%d): %d; want %d", c.n, p, c.want)
		}
	}
}

// The powers are held against n in unsigned numbers, since 2^63 is one of them.
func TestN2ByTheWords(t *testing.T) {
	for _, n := range edges() {
		k, p := Log(n), Floor(n)
		if n < 2 {
			if k != 0 {
				t.Errorf("Log(%d): %d", n, k)
			}
		} else if k < 1 || k > 63 || uint64(n) > 1<<k || uint64(n) <= 1<<(k-1) {
			t.Errorf("Log(%d): %d", n, k)
		}
		if n < 1 {
			if p != 0 {
				t.Errorf("Floor(%d): %d", n, p)
			}
		} else if p < 1 || p&(p-1) != 0 || p > n || uint64(n) >= 2*uint64(p) {
			t.Errorf("Floor(%d): %d", n, p)
		}
	}
}

func TestN3AddedAndTakenOffAgain(t *testing.T) {
	for _, a := range edges() {
		for _, b := range edges() {
			if sum, e := Add(a, b); e == api.OK {
				back, e := Sub(sum, b)
				other, e2 := Sub(sum, a)
				if back != a || other != b || e != api.OK || e2 != api.OK {
					t.Errorf("%d and %d added, and taken off again: %d, %d", a, b, back, other)
				}
			}
			if rest, e := Sub(a, b); e == api.OK {
				if back, e := Add(rest, b); back != a || e != api.OK {
					t.Errorf("%d taken off %d, and added again: %d, %d", b, a, back, e)
				}
			}
		}
	}
}

func TestN3RowTakenOffAgain(t *testing.T) {
	l := []int64{5, -9, most - 20, 16, least, 1 << 62, -1}
	rest, e := Sum(l)
	if e != api.OK {
		t.Fatal(e)
	}
	for _, n := range slices.Backward(l) {
		if rest, e = Sub(rest, n); e != api.OK {
			t.Fatal(n, e)
		}
	}
	if rest != 0 {
		t.Error(rest)
	}
}
