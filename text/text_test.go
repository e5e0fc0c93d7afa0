package text

import (
	"math"
	"math/big"
	"slices"
	"strings"
	"testing"

	"raceway/api"
)

const (
	most  = math.MaxInt64
	least = math.MinInt64
)

type listCase struct {
	s    string
	want []string
}

func tryLists(t *testing.T, f func(string) []string, cases []listCase) {
	t.Helper()
	for _, c := range cases {
		if l := f(c.s); !slices.Equal(l, c.want) {
			t.Errorf("of %q: %q; want %q", c.s, l, c.want)
		}
	}
}

func TestT1Lines(t *testing.T) {
	tryLists(t, Lines, []listCase{
		{"", nil},
		{"\n", []string{""}},
		{"\n\n", []string{"", ""}},
		{"\n\n\n", []string{"", "", ""}},
		{"a", []string{"a"}},
		{"a\n", []string{"a"}},
		{"a\n\n", []string{"a", ""}},
		{"\na", []string{"", "a"}},
		{"\na\n", []string{"", "a"}},
		{"a\nb", []string{"a", "b"}},
		{"a\nb\n", []string{"a", "b"}},
		{"a\n\nb\n", []string{"a", "", "b"}},
		{" ", []string{" "}},
		{" \n ", []string{" ", " "}},
		{"\r", []string{"\r"}},
		{"a\r\nb\r\n", []string{"a\r", "b\r"}},
		{"p max 2 1\nn 1 s\nn 2 t\na 1 2 5\n", []string{"p max 2 1", "n 1 s", "n 2 t", "a 1 2 5"}},
		{"\xff\n\xc3\n\xa9", []string{"\xff", "\xc3", "\xa9"}},
		{"\u2028\u0085\n\u00e9", []string{"\u2028\u0085", "\u00e9"}},
		{"\x00\n\x00\n", []string{"\x00", "\x00"}},
	})
}

func TestT1Words(t *testing.T) {
	tryLists(t, Words, []listCase{
		{"", nil},
		{" ", nil},
		{" \t\r \r\t", nil},
		{"a", []string{"a"}},
		{" a", []string{"a"}},
		{"a ", []string{"a"}},
		{"\ta\r", []string{"a"}},
		{"a b", []string{"a", "b"}},
		{"a  b", []string{"a", "b"}},
		{" a\tbc \r d", []string{"a", "bc", "d"}},
		{"p max 2 1\r", []string{"p", "max", "2", "1"}},
		{"b a b", []string{"b", "a", "b"}},
		{"a\nb", []string{"a\nb"}},
		{"\n \n", []string{"\n", "\n"}},
		{"a\vb\fc", []string{"a\vb\fc"}},
		{"\v \f", []string{"\v", "\f"}},
		{"a\u00a0b\u2003c\u0085d", []string{"a\u00a0b\u2003c\u0085d"}},
		{"\xa0 \x85 \xff", []string{"\xa0", "\x85", "\xff"}},
		{"\xc3 \xa9\t\u00e9", []string{"\xc3", "\xa9", "\u00e9"}},
		{"\xe2\x80 \xf0\x9f\r\x00", []string{"\xe2\x80", "\xf0\x9f", "\x00"}},
	})
}

// Of all bytes one ends a line, and three others a word.
func TestT1EachByte(t *testing.T) {
	for i := range 256 {
		b := string([]byte{byte(i)})
		lines, words := []string{"a" + b + "c"}, []string{"a" + b + "c"}
		switch i {
		case 10:
			lines = []string{"a", "c"}
		case 32, 9, 13:
			words = []string{"a", "c"}
		}
		tryLists(t, Lines, []listCase{{"a" + b + "c", lines}})
		tryLists(t, Words, []listCase{{"a" + b + "c", words}})
	}
}

// short tells all texts of at most n bytes of these.
func short(bytes string, n int) []string {
	l, last := []string{""}, []string{""}
	for range n {
		var next []string
		for _, s := range last {
			for i := range len(bytes) {
				next = append(next, s+bytes[i:i+1])
			}
		}
		l, last = append(l, next...), next
	}
	return l
}

// parts tells the texts between the bytes that part, each one, byte by byte.
func parts(s string, part func(b byte) bool) []string {
	l := []string{""}
	for i := range len(s) {
		if part(s[i]) {
			l = append(l, "")
		} else {
			l[len(l)-1] += s[i : i+1]
		}
	}
	return l
}

func TestT1ByTheWords(t *testing.T) {
	for _, s := range short("a\n \t\r\xc3\xa9", 5) {
		lines := parts(s, func(b byte) bool { return b == 10 })
		if last := len(lines) - 1; lines[last] == "" {
			lines = lines[:last]
		}
		words := parts(s, func(b byte) bool { return b == 32 || b == 9 || b == 13 })
		words = slices.DeleteFunc(words, func(w string) bool { return w == "" })
		tryLists(t, Lines, []listCase{{s, lines}})
		tryLists(t, Words, []listCase{{s, words}})
	}
}

func TestT1LongTexts(t *testing.T) {
	const n = 1 << 18
	if l := Lines(strings.Repeat("\n", n)); len(l) != n {
		t.Error(len(l))
	}
	if l := Lines(strings.Repeat("x", n)); len(l) != 1 || len(l[0]) != n {
		t.Error(len(l))
	}
	if l := Words(strings.Repeat(" x", n)); len(l) != n || l[0] != "x" || l[n-1] != "x" {
		t.Error(len(l))
	}
	if l := Words(strings.Repeat("\t", n)); len(l) != 0 {
		t.Error(len(l))
	}
}

// P3: a list that is answered is written into without a change of another.
func TestT1ListsAreNew(t *testing.T) {
	for _, f := range []func(string) []string{Lines, Words} {
		s := "a \nb \nc"
		first, kept := f(s), f(s)
		want := slices.Clone(kept)
		for i := range first {
			first[i] = "other"
		}
		_ = append(first[:0], "one", "more")
		if !slices.Equal(kept, want) || !slices.Equal(f(s), want) {
			t.Errorf("%q, %q; want %q", kept, f(s), want)
		}
	}
}

type numberCase struct {
	w string
	n int64
	e api.Errno
}

func tryNumbers(t *testing.T, cases []numberCase) {
	t.Helper()
	for _, c := range cases {
		if n, e := Number(c.w); n != c.n || e != c.e {
			t.Errorf("Number(%q): %d, %d; want %d, %d", c.w, n, e, c.n, c.e)
		}
	}
}

func TestT2Number(t *testing.T) {
	tryNumbers(t, []numberCase{
		{"0", 0, api.OK},
		{"-0", 0, api.OK},
		{"00", 0, api.OK},
		{"-000", 0, api.OK},
		{"7", 7, api.OK},
		{"007", 7, api.OK},
		{"-007", -7, api.OK},
		{"010", 10, api.OK},
		{"08", 8, api.OK},
		{"-12", -12, api.OK},
		{"1234567890", 1234567890, api.OK},
		{"4611686018427387903", api.MaxSum, api.OK},
		{"9223372036854775806", most - 1, api.OK},
		{"9223372036854775807", most, api.OK},
		{"-9223372036854775807", -most, api.OK},
		{"-9223372036854775808", least, api.OK},
		{"-00009223372036854775808", least, api.OK},
		{strings.Repeat("0", 1<<16) + "9223372036854775807", most, api.OK},
		{"-" + strings.Repeat("0", 1<<16), 0, api.OK},
	})
}

func TestT2NumberBeyondItsBounds(t *testing.T) {
	tryNumbers(t, []numberCase{
		{"9223372036854775808", 0, api.ErrRange},
		{"-9223372036854775809", 0, api.ErrRange},
		{"0009223372036854775808", 0, api.ErrRange},
		{"-0009223372036854775809", 0, api.ErrRange},
		{"9999999999999999999", 0, api.ErrRange},
		{"-9999999999999999999", 0, api.ErrRange},
		{"10000000000000000000", 0, api.ErrRange},
		{"18446744073709551615", 0, api.ErrRange},
		{"18446744073709551616", 0, api.ErrRange},
		{"18446744073709551617", 0, api.ErrRange},
		{"-18446744073709551616", 0, api.ErrRange},
		{"340282366920938463463374607431768211457", 0, api.ErrRange},
		{strings.Repeat("9", 1<<16), 0, api.ErrRange},
		{"-" + strings.Repeat("1", 1<<16), 0, api.ErrRange},
	})
}

func TestT2NumberOfAWrongForm(t *testing.T) {
	for _, w := range []string{
		"", "-", "+", "--", "+1", "+0", "--1", "-+1", "+-1", "1-", "1-2", "-1-", "-a", "a", "s",
		" ", " 1", "1 ", "1\n", "\n1", "\t1", "1\r", "- 1", "1 2", "1\x00", "\x001",
		"1_0", "_1", "1_", "0x1", "0b1", "0o7", "0X1", "1e3", "1.0", ".5", "1,0", "1/2", "f", "Inf", "NaN",
		"\u0661", "\uff11", "\u2212" + "1", "\xb1", "\xff", "1\xff", "1\u00b2",
		// The form is first, however great the digits are.
		"99999999999999999999x", "x99999999999999999999", "-99999999999999999999-", "+99999999999999999999", "9223372036854775808 ", "99999999999999999999_9",
		strings.Repeat("9", 1<<16) + "x",
	} {
		tryNumbers(t, []numberCase{{w, 0, api.ErrForm}})
	}
}

// isNumber goes over the form by its words: a `-`, or none, and digits, one or more.
func isNumber(w string) bool {
	count := 0
	for i := range len(w) {
		switch {
		case strings.Contains("0123456789", w[i:i+1]):
			count++
		case i > 0 || w[i] != '-':
			return false
		}
	}
	return count > 0
}

// tryByTheWords holds a word's number against the library's numbers without bounds.
func tryByTheWords(t *testing.T, w string) {
	t.Helper()
	if !isNumber(w) {
		tryNumbers(t, []numberCase{{w, 0, api.ErrForm}})
		return
	}
	z, ok := new(big.Int).SetString(w, 10)
	if !ok {
		t.Fatalf("%q", w)
	}
	if z.IsInt64() {
		tryNumbers(t, []numberCase{{w, z.Int64(), api.OK}})
	} else {
		tryNumbers(t, []numberCase{{w, 0, api.ErrRange}})
	}
}

func TestT2NumberByTheWords(t *testing.T) {
	for _, w := range short("-+019_x /:", 4) {
		tryByTheWords(t, w)
	}
	for i := range 256 {
		b := string([]byte{byte(i)})
		for _, w := range []string{b, b + "1", "1" + b, "1" + b + "1", "-" + b, "-1" + b} {
			tryByTheWords(t, w)
		}
	}
}

func TestT2NumberNearItsBounds(t *testing.T) {
	for _, middle := range []int64{most, least, 0} {
		for d := int64(-1000); d <= 1000; d++ {
			w := new(big.Int).Add(big.NewInt(middle), big.NewInt(d)).String()
			tryByTheWords(t, w)
		}
	}
}

func TestT2Write(t *testing.T) {
	for _, c := range []struct {
		n    int64
		want string
	}{
		{0, "0"}, {1, "1"}, {-1, "-1"}, {9, "9"}, {10, "10"}, {-10, "-10"}, {100, "100"}, {-5, "-5"}, {99, "99"}, {-99, "-99"},
		{1000000, "1000000"},
		{1 << 32, "4294967296"},
		{api.MaxSum, "4611686018427387903"},
		{most, "9223372036854775807"},
		{-most, "-9223372036854775807"},
		{least, "-9223372036854775808"},
	} {
		if w := Write(c.n); w != c.want {
			t.Errorf("Write(%d): %q; want %q", c.n, w, c.want)
		}
	}
}

func TestT2Join(t *testing.T) {
	for _, c := range []struct {
		words []string
		want  string
	}{
		{nil, ""},
		{[]string{}, ""},
		{[]string{""}, ""},
		{[]string{"a"}, "a"},
		{[]string{" "}, " "},
		{[]string{"", ""}, " "},
		{[]string{"", "", ""}, "  "},
		{[]string{"a", "b"}, "a b"},
		{[]string{"a", "", "b"}, "a  b"},
		{[]string{"", "a", ""}, " a "},
		{[]string{" a ", "\t", "b\n"}, " a  \t b\n"},
		{[]string{"\xff", "\xc3", "\xa9"}, "\xff \xc3 \xa9"},
		{[]string{"p", "max", "2", "1"}, "p max 2 1"},
	} {
		if s := Join(c.words...); s != c.want {
			t.Errorf("Join(%q): %q; want %q", c.words, s, c.want)
		}
	}
	if s := Join(); s != "" {
		t.Errorf("%q", s)
	}
	if s := Join("a", Write(-1), Write(5)); s != "a -1 5" {
		t.Errorf("%q", s)
	}
}

// P3: words that are handed in as a list stay as they are, what lies behind them is not read, and a later change is not seen.
func TestT2JoinKeepsNothing(t *testing.T) {
	all := []string{"a", "b", "c"}
	kept := slices.Clone(all)
	s := Join(all[:2]...)
	if s != "a b" || !slices.Equal(all, kept) {
		t.Errorf("%q, %q", s, all)
	}
	all[0], all[1] = "x", "y"
	if s != "a b" || Join(all[:2]...) != "x y" {
		t.Errorf("%q", s)
	}
}

func TestT3NumbersWrittenAreRead(t *testing.T) {
	l := []int64{0, most, most - 1, least, least + 1, api.MaxSum}
	for k := range 63 {
		for d := int64(-2); d <= 2; d++ {
			l = append(l, 1<<k+d, -1<<k+d)
		}
	}
	for p := int64(1); p <= most/10; p *= 10 {
		l = append(l, p, p-1, 10*p-1, -p, -p+1, -10*p+1)
	}
	for n := int64(-1100); n <= 1100; n++ {
		l = append(l, n)
	}
	for _, n := range l {
		w := Write(n)
		if back, e := Number(w); back != n || e != api.OK {
			t.Errorf("Number(%q): %d, %d", w, back, e)
		}
		if words := Words(w); !slices.Equal(words, []string{w}) {
			t.Errorf("Words(%q): %q", w, words)
		}
	}
}

func TestT3WordsJoinedAreRead(t *testing.T) {
	words := []string{"a", "\n", "\v", "-", "\xff", "\u00a0", "\x00", "a", Write(least)}
	for i := range len(words) + 1 {
		line := Join(words[:i]...)
		if back := Words(line); !slices.Equal(back, words[:i]) {
			t.Errorf("Words(%q): %q", line, back)
		}
	}
}

func TestT3LinesPutTogetherAreRead(t *testing.T) {
	lines := []string{"", "p max 2 1", "", " ", "\r", "\xff", "", ""}
	for i := range len(lines) + 1 {
		s := ""
		for _, line := range lines[:i] {
			s += line + "\n"
		}
		if back := Lines(s); !slices.Equal(back, lines[:i]) {
			t.Errorf("Lines(%q): %q", s, back)
		}
	}
}
