package valset

import (
	"math"
	"math/rand"
	"regexp"
	"slices"
	"strconv"
	"strings"
	"testing"

	"sutler/api"
)

const end = 1 << 31

var (
	nameForm   = regexp.MustCompile(`\A[a-z][a-z0-9.-]{0,15}\z`)
	numberForm = regexp.MustCompile(`\A(0|-?[1-9][0-9]{0,9})\z`)
)

// saysNumber says anew which number a text is.
func saysNumber(s string) (int64, bool) {
	if !numberForm.MatchString(s) {
		return 0, false
	}
	n, _ := strconv.ParseInt(s, 10, 64)
	if n < -end || n > end {
		return 0, false
	}
	return n, true
}

func agrees(t *testing.T, s string) {
	t.Helper()
	n, num := saysNumber(s)
	name := nameForm.MatchString(s)
	if Name(s) != name || Value(s) != (name || num) {
		t.Errorf("%q: Name %v, Value %v", s, Name(s), Value(s))
	}
	if m, ok := Number(s); m != n || ok != num {
		t.Errorf("Number(%q): %d, %v", s, m, ok)
	}
}

// TestTexts: P3.1.
func TestTexts(t *testing.T) {
	for s, want := range map[string][2]bool{
		"a": {true, false}, "z": {true, false}, "a.": {true, false}, "a-": {true, false}, "a0.b-9": {true, false}, "abcdefghijklmnop": {true, false},
		"0": {false, true}, "7": {false, true}, "-7": {false, true}, "1000000000": {false, true}, "2147483647": {false, true}, "2147483648": {false, true}, "-2147483648": {false, true},
		"": {}, "-": {}, "-0": {}, "00": {}, "01": {}, "-01": {}, "+1": {}, "1_0": {}, "0x1": {}, "1.0": {}, "1e3": {}, " 1": {}, "1 ": {}, "1\n": {}, "a\n": {}, "a b": {}, "a_b": {}, "A": {}, "aB": {}, ".a": {}, "-a": {}, "1a": {}, "é": {}, "aé": {}, "a\x00": {}, "a\xff": {}, "１": {},
		"2147483649": {}, "-2147483649": {}, "3000000000": {}, "4294967296": {}, "9223372036854775808": {}, "-9223372036854775809": {}, "18446744073709551617": {}, "abcdefghijklmnopq": {},
	} {
		_, num := Number(s)
		if Name(s) != want[0] || num != want[1] || Value(s) != (want[0] || want[1]) {
			t.Errorf("%q: %v, %v, %v", s, Name(s), num, Value(s))
		}
	}
	for s, want := range map[string]int64{"0": 0, "10": 10, "-10": -10, "2147483648": end, "-2147483648": -end, "-0": 0, "2147483649": 0, "a": 0} {
		if n, _ := Number(s); n != want {
			t.Errorf("%q: %d", s, n)
		}
	}
}

// TestAllTexts: P3.1, of all short texts, each byte at each place, numbers around the edges, and long texts.
func TestAllTexts(t *testing.T) {
	const letters = "\x00 +-./059:@AZ`az{\x7f\x80_é"
	row := []string{""}
	for range 4 {
		var next []string
		for _, s := range row {
			agrees(t, s)
			for i := range len(letters) {
				next = append(next, s+letters[i:i+1])
			}
		}
		row = next
	}
	for _, s := range []string{"a", "abcdefghijklmnop", "1234567890", "-1234567890"} {
		for i := range len(s) + 1 {
			for c := range 256 {
				agrees(t, s[:i]+string([]byte{byte(c)})+s[i:])
				if i < len(s) {
					agrees(t, s[:i]+string([]byte{byte(c)})+s[i+1:])
				}
			}
		}
	}
	for _, far := range []int64{0, 9, 99, end, 1 << 32, 1 << 62} {
		for d := int64(-20); d <= 20; d++ {
			agrees(t, strconv.FormatInt(far+d, 10))
			agrees(t, strconv.FormatInt(-far+d, 10))
		}
	}
	for n := range 40 {
		agrees(t, strings.Repeat("a", n))
		agrees(t, strings.Repeat("9", n))
		agrees(t, "-"+strings.Repeat("1", n))
		agrees(t, strings.Repeat("0", n))
	}
	agrees(t, strings.Repeat("1", 1<<20))
}

func texts(lo, hi int64) []string {
	var l []string
	for n := lo; n <= hi; n++ {
		l = append(l, strconv.FormatInt(n, 10))
	}
	slices.Sort(l)
	return l
}

func list1(miss bool, l ...string) api.Set   { return api.Set{Miss: miss, Vals: l} }
func allBut1(miss bool, l ...string) api.Set { return api.Set{Miss: miss, Not: true, Vals: l} }
func numbers1(miss bool, lo, hi int64, but ...string) api.Set {
	return api.Set{Miss: miss, Not: true, Num: true, Vals: but, Lo: lo, Hi: hi}
}

// TestOf: P3.2, what is admitted.
func TestOf(t *testing.T) {
	for i, c := range []struct {
		op   int
		n    int64
		vals []string
		want api.Set
	}{
		{api.In, 0, []string{"b", "a"}, list1(false, "a", "b")},
		{api.In, 0, []string{"10", "9", "-1", "a", "0"}, list1(false, "-1", "0", "10", "9", "a")},
		{api.In, 0, []string{"h", "g", "f", "e", "d", "c", "b", "a"}, list1(false, "a", "b", "c", "d", "e", "f", "g", "h")},
		{api.NotIn, 0, []string{"a"}, allBut1(true, "a")},
		{api.NotIn, 0, []string{"c", "5", "a"}, allBut1(true, "5", "a", "c")},
		{api.Exists, 0, nil, allBut1(false)},
		{api.Exists, 0, []string{}, allBut1(false)},
		{api.Missing, 0, nil, list1(true)},
		{api.Above, 3, nil, numbers1(false, 4, end)},
		{api.Above, 0, nil, numbers1(false, 1, end)},
		{api.Above, -end, nil, numbers1(false, 1-end, end)},
		{api.Above, end - 65, nil, numbers1(false, end-64, end)},
		{api.Above, end - 64, nil, list1(false, texts(end-63, end)...)},
		{api.Above, end - 8, nil, list1(false, texts(end-7, end)...)},
		{api.Above, end - 1, nil, list1(false, "2147483648")},
		{api.Above, end, nil, list1(false)},
		{api.Below, 6, nil, numbers1(false, -end, 5)},
		{api.Below, end, nil, numbers1(false, -end, end-1)},
		{api.Below, 65 - end, nil, numbers1(false, -end, 64-end)},
		{api.Below, 64 - end, nil, list1(false, texts(-end, 63-end)...)},
		{api.Below, 1 - end, nil, list1(false, "-2147483648")},
		{api.Below, -end, nil, list1(false)},
	} {
		if s, e := Of(api.Req{Key: "k", Op: c.op, Vals: c.vals, N: c.n}); e != api.OK || !Same(s, c.want) || Check(s) != api.OK {
			t.Error(i, s, e)
		}
	}
}

// TestOfWrong: P3.2, each error and, where several apply, the one that is named first.
func TestOfWrong(t *testing.T) {
	nine := []string{"a", "b", "c", "d", "e", "f", "g", "h", "i"}
	for i, c := range []struct {
		r api.Req
		e api.Errno
	}{
		{api.Req{}, api.ErrName},
		{api.Req{Key: "", Op: api.Exists}, api.ErrName},
		{api.Req{Key: "Zone", Op: api.Exists}, api.ErrName},
		{api.Req{Key: "5", Op: api.Exists}, api.ErrName},
		{api.Req{Key: "abcdefghijklmnopq", Op: api.Exists}, api.ErrName},
		{api.Req{Key: "K", Op: 9, Vals: append(nine, "A", "A"), N: 5}, api.ErrName},
		{api.Req{Key: "k"}, api.ErrOp},
		{api.Req{Key: "k", Op: -1}, api.ErrOp},
		{api.Req{Key: "k", Op: 7}, api.ErrOp},
		{api.Req{Key: "k", Op: math.MaxInt}, api.ErrOp},
		{api.Req{Key: "k", Op: math.MinInt}, api.ErrOp},
		{api.Req{Key: "k", Op: api.In}, api.ErrOp},
		{api.Req{Key: "k", Op: api.In, Vals: []string{}}, api.ErrOp},
		{api.Req{Key: "k", Op: api.NotIn}, api.ErrOp},
		{api.Req{Key: "k", Op: api.Exists, Vals: []string{"a"}}, api.ErrOp},
		{api.Req{Key: "k", Op: api.Missing, Vals: []string{"a"}}, api.ErrOp},
		{api.Req{Key: "k", Op: api.Above, Vals: []string{"a"}}, api.ErrOp},
		{api.Req{Key: "k", Op: api.Below, Vals: []string{"1"}, N: 1}, api.ErrOp},
		{api.Req{Key: "k", Op: api.In, Vals: []string{"a"}, N: 1}, api.ErrOp},
		{api.Req{Key: "k", Op: api.NotIn, Vals: []string{"a"}, N: -1}, api.ErrOp},
		{api.Req{Key: "k", Op: api.Exists, N: 1}, api.ErrOp},
		{api.Req{Key: "k", Op: api.Missing, N: 1}, api.ErrOp},
		{api.Req{Key: "k", Op: api.Missing, N: math.MinInt64}, api.ErrOp},
		{api.Req{Key: "k", Op: api.Above, N: end + 1}, api.ErrOp},
		{api.Req{Key: "k", Op: api.Above, N: -end - 1}, api.ErrOp},
		{api.Req{Key: "k", Op: api.Below, N: end + 1}, api.ErrOp},
		{api.Req{Key: "k", Op: api.Below, N: -end - 1}, api.ErrOp},
		{api.Req{Key: "k", Op: api.Above, N: math.MaxInt64}, api.ErrOp},
		{api.Req{Key: "k", Op: api.Below, N: math.MinInt64}, api.ErrOp},
		{api.Req{Key: "k", Op: api.Exists, Vals: append(nine, "A", "A")}, api.ErrOp},
		{api.Req{Key: "k", Op: api.In, Vals: append(nine, "A", "A"), N: 1}, api.ErrOp},
		{api.Req{Key: "k", Op: api.In, Vals: nine}, api.ErrMany},
		{api.Req{Key: "k", Op: api.NotIn, Vals: append(nine[:7:7], "A", "a")}, api.ErrMany},
		{api.Req{Key: "k", Op: api.In, Vals: slices.Repeat([]string{"a"}, 9)}, api.ErrMany},
		{api.Req{Key: "k", Op: api.In, Vals: []string{"A"}}, api.ErrForm},
		{api.Req{Key: "k", Op: api.NotIn, Vals: []string{"a", ""}}, api.ErrForm},
		{api.Req{Key: "k", Op: api.In, Vals: []string{"a", "01"}}, api.ErrForm},
		{api.Req{Key: "k", Op: api.In, Vals: []string{"a", "a", "-0"}}, api.ErrForm},
		{api.Req{Key: "k", Op: api.In, Vals: []string{"A", "A"}}, api.ErrForm},
		{api.Req{Key: "k", Op: api.In, Vals: []string{"a", "b", "a"}}, api.ErrTwice},
		{api.Req{Key: "k", Op: api.NotIn, Vals: []string{"5", "5"}}, api.ErrTwice},
	} {
		if s, e := Of(c.r); e != c.e || !Same(s, api.Set{}) {
			t.Error(i, s, e, "not", c.e)
		}
	}
}

// TestOfAdmits: P3.2, a value is admitted just if the operation says so.
func TestOfAdmits(t *testing.T) {
	says := map[int]func(n, m int64) bool{
		api.Above: func(n, m int64) bool { return m > n },
		api.Below: func(n, m int64) bool { return m < n },
	}
	for op, ok := range says {
		for _, at := range []int64{-end, -end + 64, -1, 0, 99, end - 64, end} {
			for n := max(at-3, -end); n <= min(at+3, end); n++ {
				s, e := Of(api.Req{Key: "k", Op: op, N: n})
				if e != api.OK || s.Miss || Check(s) != api.OK {
					t.Error(op, n, s, e)
				}
				for _, v := range world() {
					m, num := saysNumber(v)
					if Has(s, v) != (num && ok(n, m)) {
						t.Error(op, n, v)
					}
				}
			}
		}
	}
}

// TestCheck: P3.3, each way at its edges, and one fault each.
func TestCheck(t *testing.T) {
	for i, s := range []api.Set{
		{}, {Miss: true}, {Vals: []string{}}, {Not: true}, {Not: true, Miss: true},
		list1(false, "-1", "0", "10", "9", "a", "a-", "b"), list1(true, texts(1, 64)...), list1(false, texts(-end, -end)...),
		allBut1(false, "-1", "0", "10", "9", "a"), allBut1(true, texts(1, 64)...),
		numbers1(false, -end, end), numbers1(true, 1, 65), numbers1(false, 1, 66, "2"), numbers1(false, 1, 66, "65"), numbers1(false, -32, 32), numbers1(false, 0, 200, texts(10, 73)...),
		numbers1(false, 0, 128, texts(10, 73)...), numbers1(true, -end, -end+64), numbers1(false, end-64, end), numbers1(false, -100, 100, "-1", "-9", "0", "10", "9"),
	} {
		if e := Check(s); e != api.OK {
			t.Error(i, s, e)
		}
	}
	for i, s := range []api.Set{
		{Num: true}, {Num: true, Lo: 1, Hi: 99}, {Num: true, Vals: []string{"1"}, Miss: true},
		{Lo: 1}, {Hi: 1}, {Lo: -1}, {Not: true, Lo: 1}, {Not: true, Hi: -1}, {Lo: 1, Hi: 99, Vals: []string{"5"}},
		list1(false, "b", "a"), list1(false, "a", "a"), list1(false, "9", "10"), list1(false, "A"), list1(false, ""), list1(false, "a", "b\n"), list1(true, "01"), list1(false, "2147483649"), list1(false, texts(1, 65)...),
		allBut1(false, "b", "a"), allBut1(false, "a", "a"), allBut1(false, "-0"), allBut1(false, "A"), allBut1(false, texts(1, 65)...),
		{Not: true, Num: true}, numbers1(false, 1, 64), numbers1(false, 1, 65, "2"), numbers1(false, 0, 127, texts(10, 73)...), numbers1(false, 5, 4), numbers1(false, 100, 1),
		numbers1(false, 1, 66, "1"), numbers1(false, 1, 66, "66"), numbers1(false, 1, 99, "0"), numbers1(false, 1, 99, "100"), numbers1(false, 1, 99, "a"), numbers1(false, 1, 99, "5", "a"), numbers1(false, 1, 99, "05"), numbers1(false, 1, 99, "-5"),
		numbers1(false, 1, 99, "9", "10"), numbers1(false, 1, 99, "9", "9"), numbers1(false, 0, 999, texts(100, 164)...),
		numbers1(false, -end-1, end), numbers1(false, -end, end+1), numbers1(false, math.MinInt64, math.MaxInt64), numbers1(false, math.MaxInt64, math.MinInt64), numbers1(false, math.MinInt64, 0), numbers1(false, 0, math.MaxInt64),
	} {
		if e := Check(s); e != api.ErrArg {
			t.Error(i, s, e)
		}
		if Has(s, "5") || Has(s, "a") || Has(s, "") || Empty(s) {
			t.Error(i, s, "Has, Empty")
		}
		for _, o := range []api.Set{{}, {Not: true}, {Num: true}, s} {
			if m, e := Meet(s, o); e != api.ErrArg || !Same(m, api.Set{}) {
				t.Error(i, s, "Meet", m, e)
			}
			if m, e := Meet(o, s); e != api.ErrArg || !Same(m, api.Set{}) {
				t.Error(i, s, "Meet, turned", m, e)
			}
		}
	}
}

func names(c byte, n int) []string {
	var l []string
	for i := range n {
		l = append(l, string([]byte{c, byte('a' + i/26), byte('a' + i%26)}))
	}
	return l
}

// TestMeet: P3.4, P3.7.
func TestMeet(t *testing.T) {
	odd := func(lo, hi int64) []string {
		return slices.DeleteFunc(texts(lo, hi), func(v string) bool { n, _ := saysNumber(v); return n%2 == 0 })
	}
	even := func(lo, hi int64) []string {
		return slices.DeleteFunc(texts(lo, hi), func(v string) bool { n, _ := saysNumber(v); return n%2 != 0 })
	}
	for i, c := range []struct {
		a, b, want api.Set
		e          api.Errno
	}{
		{list1(false, "a", "b"), list1(false, "b", "c"), list1(false, "b"), 0},
		{list1(true, "a"), list1(true, "b"), list1(true), 0},
		{list1(true, "a"), list1(false, "a"), list1(false, "a"), 0},
		{list1(false, texts(1, 64)...), list1(false, texts(33, 96)...), list1(false, texts(33, 64)...), 0},
		{list1(true, "5", "a", "b"), allBut1(true, "a"), list1(true, "5", "b"), 0},
		{list1(false, "5", "a", "b"), numbers1(true, 5, 99), list1(false, "5"), 0},
		{list1(false, "4", "5", "6", "99"), numbers1(false, 5, 99, "6"), list1(false, "5", "99"), 0},
		{list1(true), allBut1(true), list1(true), 0},
		{list1(true), numbers1(true, 1, 99), list1(true), 0},
		{allBut1(true), allBut1(true), allBut1(true), 0},
		{allBut1(true, "a"), allBut1(false, "b"), allBut1(false, "a", "b"), 0},
		{allBut1(true, "5", "a"), allBut1(true, "10", "a"), allBut1(true, "10", "5", "a"), 0},
		{allBut1(true, names('x', 32)...), allBut1(true, names('y', 32)...), allBut1(true, append(names('x', 32), names('y', 32)...)...), 0},
		{allBut1(true, names('x', 32)...), allBut1(true, names('y', 33)...), api.Set{}, api.ErrMany},
		{allBut1(true, names('x', 64)...), allBut1(true, names('x', 64)...), allBut1(true, names('x', 64)...), 0},
		{allBut1(true, names('x', 64)...), allBut1(true, "a"), api.Set{}, api.ErrMany},
		{numbers1(true, 1, 99), numbers1(true, 20, 200), numbers1(true, 20, 99), 0},
		{numbers1(true, 1, 99), numbers1(false, 35, 200), numbers1(false, 35, 99), 0},
		{numbers1(true, 1, 99), numbers1(true, 36, 200), list1(true, texts(36, 99)...), 0},
		{numbers1(false, 1, 99), numbers1(false, 99, 200), list1(false, "99"), 0},
		{numbers1(true, 1, 99), numbers1(true, 100, 200), list1(true), 0},
		{numbers1(false, -end, 99), numbers1(false, 1000, end), list1(false), 0},
		{numbers1(false, 4, end), numbers1(false, -end, 5), list1(false, "4", "5"), 0},
		{numbers1(false, 0, 100), allBut1(true, "0", "50", "a"), numbers1(false, 1, 100, "50"), 0},
		{numbers1(false, 0, 100), allBut1(false, "-1", "101", "a", "b"), numbers1(false, 0, 100), 0},
		{numbers1(false, 0, 100), allBut1(false, "0", "1", "100", "2", "50", "98", "99"), numbers1(false, 3, 97, "50"), 0},
		{numbers1(false, 0, 100, "1", "99"), allBut1(false, "0", "100"), numbers1(false, 2, 98), 0},
		{numbers1(false, 0, 100, "1", "99"), numbers1(false, 1, 99), numbers1(false, 2, 98), 0},
		{numbers1(false, -100, 100, "-9", "10"), numbers1(false, -100, 100, "-8", "10"), numbers1(false, -100, 100, "-8", "-9", "10"), 0},
		{numbers1(false, 0, 64), allBut1(false, "5"), list1(false, slices.DeleteFunc(texts(0, 64), func(v string) bool { return v == "5" })...), 0},
		{numbers1(false, 0, 65), allBut1(false, "5"), numbers1(false, 0, 65, "5"), 0},
		{numbers1(false, 0, 64), allBut1(false, "0"), list1(false, texts(1, 64)...), 0},
		{numbers1(false, 0, 999, texts(100, 131)...), numbers1(false, 0, 999, texts(200, 231)...), numbers1(false, 0, 999, append(texts(100, 131), texts(200, 231)...)...), 0},
		{numbers1(false, 0, 999, texts(100, 131)...), numbers1(false, 0, 999, texts(200, 232)...), api.Set{}, api.ErrMany},
		{numbers1(false, 0, 999, texts(100, 163)...), allBut1(false, "200"), api.Set{}, api.ErrMany},
		{numbers1(false, 0, 999, texts(100, 163)...), allBut1(false, "100", "a", "b"), numbers1(false, 0, 999, texts(100, 163)...), 0},
		{numbers1(false, 0, 999, texts(100, 163)...), allBut1(false, "0", "999"), numbers1(false, 1, 998, texts(100, 163)...), 0},
		{numbers1(false, 0, 999, texts(100, 163)...), numbers1(false, 120, 999, "200"), numbers1(false, 164, 999, "200"), 0},
		{numbers1(false, 0, 999, texts(100, 163)...), numbers1(false, 0, 163, "50"), numbers1(false, 0, 99, "50"), 0},
		{numbers1(false, 0, 300, odd(1, 127)...), numbers1(false, 1, 300, even(2, 128)...), numbers1(false, 129, 300), 0},
		{numbers1(false, 0, 300, odd(1, 127)...), numbers1(false, 0, 300, even(2, 128)...), api.Set{}, api.ErrMany},
		{numbers1(false, 0, 191, texts(1, 64)...), numbers1(false, 0, 191, texts(100, 163)...), list1(false, slices.Concat([]string{"0"}, texts(164, 191), texts(65, 99))...), 0},
		{numbers1(false, 0, 192, texts(1, 64)...), numbers1(false, 0, 192, texts(100, 163)...), api.Set{}, api.ErrMany},
	} {
		if c.e == 0 {
			slices.Sort(c.want.Vals)
			if Check(c.want) != api.OK {
				t.Error(i, "want", c.want)
			}
		}
		for _, p := range [][2]api.Set{{c.a, c.b}, {c.b, c.a}} {
			if s, e := Meet(p[0], p[1]); e != c.e || !Same(s, c.want) {
				t.Error(i, s, e)
			}
		}
	}
}

// TestHas: P3.5.
func TestHas(t *testing.T) {
	for i, c := range []struct {
		s    api.Set
		v    string
		want bool
	}{
		{list1(false, "a", "b"), "a", true}, {list1(false, "a", "b"), "b", true}, {list1(false, "a", "b"), "c", false}, {list1(true), "a", false}, {list1(true), "", false},
		{allBut1(false, "a"), "a", false}, {allBut1(false, "a"), "b", true}, {allBut1(false, "a"), "-1", true}, {allBut1(false, "a"), "Z", false}, {allBut1(true), "", false}, {allBut1(true), "01", false}, {allBut1(false, "5"), "5", false},
		{numbers1(false, 4, end), "4", true}, {numbers1(false, 4, end), "3", false}, {numbers1(false, 4, end), "04", false}, {numbers1(false, 4, end), "2147483648", true}, {numbers1(false, 4, end), "2147483649", false}, {numbers1(false, 4, end), "a", false}, {numbers1(false, 4, 99, "50"), "50", false}, {numbers1(false, 4, 99, "50"), "49", true}, {numbers1(false, 4, 99), "99", true}, {numbers1(false, 4, 99), "100", false}, {numbers1(true, 4, 99), "", false},
	} {
		if Has(c.s, c.v) != c.want {
			t.Error(i, c.s, c.v)
		}
	}
}

// TestEmpty: P3.5.
func TestEmpty(t *testing.T) {
	for i, c := range []struct {
		s    api.Set
		want bool
	}{
		{api.Set{}, true}, {list1(false, []string{}...), true}, {list1(true), false}, {list1(false, "a"), false}, {allBut1(false), false}, {allBut1(true), false}, {numbers1(false, 1, 99), false},
		{api.Set{Num: true}, false}, {api.Set{Lo: 1}, false}, {api.Set{Hi: 1}, false},
	} {
		if Empty(c.s) != c.want {
			t.Error(i, c.s)
		}
	}
}

// TestSame: P3.5, also of sets that may not be.
func TestSame(t *testing.T) {
	base := api.Set{Miss: true, Not: true, Num: true, Vals: []string{"B", "a"}, Lo: 5, Hi: 3}
	unlike := []func(*api.Set){
		func(s *api.Set) { s.Miss = false }, func(s *api.Set) { s.Not = false }, func(s *api.Set) { s.Num = false }, func(s *api.Set) { s.Lo = 6 }, func(s *api.Set) { s.Hi = 4 },
		func(s *api.Set) { s.Vals = nil }, func(s *api.Set) { s.Vals = []string{"a", "B"} }, func(s *api.Set) { s.Vals = []string{"B"} }, func(s *api.Set) { s.Vals = []string{"B", "a", "a"} }, func(s *api.Set) { s.Vals = []string{"B", "b"} },
	}
	like := base
	like.Vals = slices.Clone(base.Vals)
	if !Same(base, like) || !Same(api.Set{}, api.Set{Vals: []string{}}) || !Same(api.Set{Vals: []string{}}, api.Set{}) {
		t.Error("alike")
	}
	for i, change := range unlike {
		s := base
		change(&s)
		if Same(base, s) || Same(s, base) {
			t.Error(i, s)
		}
	}
}

// world is texts that sets are asked for: values, and such as are none.
func world() []string {
	l := slices.Concat(texts(-end, -end+70), texts(-75, 210), texts(end-70, end), names('x', 40), names('y', 40))
	return append(l, "a", "b", "c", "zone", "", "-", "-0", "00", "A", "Z9", "2147483649", "-2147483649", "x-", "-x", "é")
}

// member says anew whether a set has a text.
func member(s api.Set, v string) bool {
	n, num := saysNumber(v)
	if !num && !nameForm.MatchString(v) {
		return false
	}
	if s.Num && (!num || n < s.Lo || n > s.Hi) {
		return false
	}
	return slices.Contains(s.Vals, v) != s.Not
}

func some(r *rand.Rand, from []string, n int) []string {
	l := slices.Clone(from)
	r.Shuffle(len(l), func(i, j int) { l[i], l[j] = l[j], l[i] })
	l = l[:min(n, len(l))]
	slices.Sort(l)
	return l
}

// anySet is a set that may be, of each way, often at its edges.
func anySet(r *rand.Rand, values []string) api.Set {
	s := api.Set{Miss: r.Intn(2) == 0}
	sizes := []int{0, 1, 3, 20, 40, 63, 64}
	n := sizes[r.Intn(len(sizes))]
	if r.Intn(2) == 0 {
		values = texts(-5, 90)
	}
	switch r.Intn(3) {
	case 0:
		s.Vals = some(r, values, n)
	case 1:
		s.Not, s.Vals = true, some(r, values, n)
	case 2:
		s.Not, s.Num = true, true
		s.Lo = []int64{-end, -end + 3, -5, 0, 20, end - 150}[r.Intn(6)]
		s.Hi = min(end, s.Lo+int64(64+n+r.Intn(3)))
		if r.Intn(4) == 0 {
			s.Hi = end
		}
		s.Vals = some(r, texts(s.Lo+1, min(s.Hi-1, s.Lo+100)), n)
	}
	return s
}

func meets(t *testing.T, a, b api.Set) (api.Set, api.Errno) {
	t.Helper()
	s, e := Meet(a, b)
	if e != api.OK && (e != api.ErrMany || !Same(s, api.Set{})) {
		t.Fatal(a, b, s, e)
	}
	if Check(s) != api.OK {
		t.Fatal(a, b, "told what may not be", s)
	}
	return s, e
}

// TestMeetHas: P3.4, P3.6, P3.7, of many pairs: it has what both have; where it is many, there is no way to write it; it doesn't hang on the order; of a set with itself it is that set.
func TestMeetHas(t *testing.T) {
	r := rand.New(rand.NewSource(3))
	asked := world()
	values := slices.DeleteFunc(world(), func(v string) bool { return !Value(v) })
	told, many := 0, 0
	for range 800 {
		a, b := anySet(r, values), anySet(r, values)
		if Check(a) != api.OK || Check(b) != api.OK {
			t.Fatal("no sets", a, b)
		}
		s, e := meets(t, a, b)
		turned, f := meets(t, b, a)
		if e != f || !Same(s, turned) {
			t.Fatal(a, b, s, e, turned, f)
		}
		if self, e := meets(t, a, a); e != api.OK || !Same(self, a) {
			t.Fatal(a, self, e)
		}
		if e != api.OK {
			many++
			if !a.Not || !b.Not || len(a.Vals)+len(b.Vals) <= 64 {
				t.Fatal(a, b, e)
			}
			continue
		}
		told++
		if s.Miss != (a.Miss && b.Miss) {
			t.Fatal(a, b, s)
		}
		for _, v := range asked {
			both := member(a, v) && member(b, v)
			if member(s, v) != both || Has(s, v) != both || Has(a, v) != member(a, v) {
				t.Fatal(a, b, s, v)
			}
		}
	}
	if told < 400 || many < 30 {
		t.Error(told, many)
	}
}

// TestMeetNumbers: P3.4, P3.7, against numbers that are counted one by one.
func TestMeetNumbers(t *testing.T) {
	r := rand.New(rand.NewSource(7))
	lists, sets, many := 0, 0, 0
	for range 4000 {
		lo := int64(r.Intn(10))
		a := numbers1(true, lo, lo+200, some(r, texts(lo+1, lo+199), r.Intn(65))...)
		lo = int64(r.Intn(150))
		b := numbers1(true, lo, lo+200, some(r, texts(lo+1, lo+199), r.Intn(65))...)
		var left []int64
		for n := int64(0); n < 400; n++ {
			if v := strconv.FormatInt(n, 10); member(a, v) && member(b, v) {
				left = append(left, n)
			}
		}
		s, e := meets(t, a, b)
		holes := 0
		if len(left) > 0 {
			holes = int(left[len(left)-1]-left[0]) + 1 - len(left)
		}
		switch {
		case len(left) <= 64:
			lists++
			if e != api.OK || s.Num || s.Not || len(s.Vals) != len(left) {
				t.Fatal(a, b, s, e)
			}
		case holes > 64:
			many++
			if e != api.ErrMany {
				t.Fatal(a, b, s, e)
			}
		default:
			sets++
			if e != api.OK || !s.Num || s.Lo != left[0] || s.Hi != left[len(left)-1] || len(s.Vals) != holes {
				t.Fatal(a, b, s, e)
			}
		}
	}
	if lists < 100 || sets < 100 || many < 100 {
		t.Error(lists, sets, many)
	}
}

// TestMeetThree: P3.6, where all is told it doesn't hang on which two are taken first.
func TestMeetThree(t *testing.T) {
	r := rand.New(rand.NewSource(11))
	values := slices.DeleteFunc(world(), func(v string) bool { return !Value(v) })
	told := 0
	for range 3000 {
		a, b, c := anySet(r, values), anySet(r, values), anySet(r, values)
		ab, e1 := meets(t, a, b)
		bc, e2 := meets(t, b, c)
		left, e3 := meets(t, ab, c)
		right, e4 := meets(t, a, bc)
		if e1 != api.OK || e2 != api.OK || e3 != api.OK || e4 != api.OK {
			continue
		}
		told++
		if !Same(left, right) {
			t.Fatal(a, b, c, left, right)
		}
	}
	if told < 1000 {
		t.Error(told)
	}
}

// TestMemory: R4, R5: nothing that is handed in is changed, nothing that is answered is shared.
func TestMemory(t *testing.T) {
	given := func(vals ...string) []string { return append(make([]string, 0, len(vals)+4), vals...) }
	reqs := []api.Req{{Key: "k", Op: api.In, Vals: given("b", "a")}, {Key: "k", Op: api.NotIn, Vals: given("b", "a")}}
	for _, r := range reqs {
		s, _ := Of(r)
		spoil(s.Vals)
		if !slices.Equal(r.Vals[:cap(r.Vals)], []string{"b", "a", "", "", "", ""}) {
			t.Error(r)
		}
		if again, _ := Of(r); !slices.Equal(again.Vals, []string{"a", "b"}) {
			t.Error(again)
		}
	}
	sets := []api.Set{list1(true, given("5", "a")...), allBut1(true, given("5", "a")...), numbers1(true, 0, 99, given("5", "6")...)}
	for _, a := range sets {
		for _, b := range sets {
			a.Vals, b.Vals = given(a.Vals...), given(b.Vals...)
			was := [2][]string{slices.Clone(a.Vals[:cap(a.Vals)]), slices.Clone(b.Vals[:cap(b.Vals)])}
			first, _ := Meet(a, b)
			first.Vals = slices.Clone(first.Vals)
			s, _ := Meet(a, b)
			spoil(s.Vals)
			Check(a)
			Has(a, "5")
			Empty(a)
			Same(a, b)
			if !slices.Equal(a.Vals[:cap(a.Vals)], was[0]) || !slices.Equal(b.Vals[:cap(b.Vals)], was[1]) {
				t.Error(a, b)
			}
			if again, _ := Meet(a, b); !Same(again, first) {
				t.Error(a, b, again, first)
			}
		}
	}
}

func spoil(l []string) {
	l = l[:cap(l)]
	for i := range l {
		l[i] = "spoiled"
	}
}
