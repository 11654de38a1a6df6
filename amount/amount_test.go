package amount

import (
	"fmt"
	"math"
	"math/big"
	"slices"
	"testing"

	"sutler/api"
)

const most = 1 << 50

type two = api.Amounts

// edges are numbers around all bounds, such as are amounts and such as are none.
func edges() []int64 {
	return []int64{
		math.MinInt64, math.MinInt64 + 1, -most - 1, -most, -258, -1,
		0, 1, 2, 127, 128, 255, 256, 258, 65535, 1 << 32, 1<<48 - 1, 1 << 48, most / 2, most/2 + 1, most - 1, most,
		most + 1, 2 * most, 1<<56 - 1, 1 << 56, 1 << 60, math.MaxInt64 - 1, math.MaxInt64,
	}
}

// amounts are those of edges that are some.
func amounts() []int64 {
	return slices.DeleteFunc(edges(), func(n int64) bool { return n < 0 || n > most })
}

func pairs(l []int64) []two {
	var p []two
	for _, a := range l {
		for _, b := range l {
			p = append(p, two{a, b})
		}
	}
	return p
}

// few are pairs of amounts, few enough to take three at a time.
func few() []two {
	return pairs([]int64{0, 1, 258, most / 2, most - 1, most})
}

// why says anew, by the document's words, which error a number has.
func why(n int64) api.Errno {
	switch {
	case n < 0:
		return api.ErrBelow
	case n > most:
		return api.ErrOver
	}
	return api.OK
}

// whyAll is the first error of all numbers, in their order.
func whyAll(l ...int64) api.Errno {
	for _, n := range l {
		if e := why(n); e != api.OK {
			return e
		}
	}
	return api.OK
}

// TestCheck: P1.1.
func TestCheck(t *testing.T) {
	for _, c := range []struct {
		n int64
		e api.Errno
	}{
		{0, api.OK}, {1, api.OK}, {most - 1, api.OK}, {most, api.OK},
		{most + 1, api.ErrOver}, {1 << 60, api.ErrOver}, {math.MaxInt64, api.ErrOver},
		{-1, api.ErrBelow}, {-most, api.ErrBelow}, {math.MinInt64, api.ErrBelow},
	} {
		if e := Check(c.n); e != c.e {
			t.Errorf("Check(%d): %d, not %d", c.n, e, c.e)
		}
	}
}

// TestCheckAll: P1.1: of a[0] ahead of a[1].
func TestCheckAll(t *testing.T) {
	for _, c := range []struct {
		a two
		e api.Errno
	}{
		{two{}, api.OK}, {two{most, most}, api.OK},
		{two{most + 1, 0}, api.ErrOver}, {two{0, most + 1}, api.ErrOver},
		{two{-1, 0}, api.ErrBelow}, {two{0, -1}, api.ErrBelow},
		{two{-1, most + 1}, api.ErrBelow}, {two{most + 1, -1}, api.ErrOver},
	} {
		if e := CheckAll(c.a); e != c.e {
			t.Errorf("CheckAll(%v): %d, not %d", c.a, e, c.e)
		}
	}
}

// TestAddSub: P1.2, by examples.
func TestAddSub(t *testing.T) {
	for _, c := range []struct {
		name string
		does func(a, b two) (two, api.Errno)
		a, b two
		want two
		e    api.Errno
	}{
		{"Add", Add, two{1, 2}, two{3, 4}, two{4, 6}, api.OK},
		{"Add", Add, two{}, two{}, two{}, api.OK},
		{"Add", Add, two{most, most}, two{}, two{most, most}, api.OK},
		{"Add", Add, two{most - 1, 1}, two{1, most - 1}, two{most, most}, api.OK},
		{"Add", Add, two{most, 0}, two{1, 0}, two{}, api.ErrOver},
		{"Add", Add, two{0, most}, two{0, 1}, two{}, api.ErrOver},
		{"Add", Add, two{most, most}, two{most, most}, two{}, api.ErrOver},
		{"Add", Add, two{0, -1}, two{1 << 60, 0}, two{}, api.ErrBelow},
		{"Add", Add, two{0, most + 1}, two{-1, 0}, two{}, api.ErrOver},
		{"Add", Add, two{most, 0}, two{1, -1}, two{}, api.ErrBelow},
		{"Add", Add, two{-1, 0}, two{1, 0}, two{}, api.ErrBelow},
		{"Add", Add, two{math.MaxInt64, 0}, two{math.MaxInt64, 0}, two{}, api.ErrOver},
		{"Sub", Sub, two{3, 4}, two{1, 4}, two{2, 0}, api.OK},
		{"Sub", Sub, two{most, most}, two{most, most}, two{}, api.OK},
		{"Sub", Sub, two{most, most}, two{}, two{most, most}, api.OK},
		{"Sub", Sub, two{3, 4}, two{1, 5}, two{}, api.ErrBelow},
		{"Sub", Sub, two{3, 4}, two{4, 1}, two{}, api.ErrBelow},
		{"Sub", Sub, two{}, two{most, most}, two{}, api.ErrBelow},
		{"Sub", Sub, two{3, 4}, two{most + 1, 5}, two{}, api.ErrOver},
		{"Sub", Sub, two{3, 4}, two{5, most + 1}, two{}, api.ErrOver},
		{"Sub", Sub, two{most + 1, 0}, two{-1, 0}, two{}, api.ErrOver},
		{"Sub", Sub, two{most + 1, 0}, two{1, 0}, two{}, api.ErrOver},
		{"Sub", Sub, two{0, 0}, two{0, -1}, two{}, api.ErrBelow},
		{"Sub", Sub, two{math.MinInt64, 0}, two{math.MaxInt64, 0}, two{}, api.ErrBelow},
	} {
		if got, e := c.does(c.a, c.b); got != c.want || e != c.e {
			t.Errorf("%s(%v, %v): %v, %d, not %v, %d", c.name, c.a, c.b, got, e, c.want, c.e)
		}
	}
}

// TestEdges: P1.1 to P1.3, at all pairs of edges, against the document's words said anew.
func TestEdges(t *testing.T) {
	all := pairs(edges())
	for _, a := range all {
		if e := CheckAll(a); e != whyAll(a[0], a[1]) {
			t.Fatal("CheckAll", a, e)
		}
		for _, b := range all {
			wrong := whyAll(a[0], a[1], b[0], b[1])
			fits := wrong == api.OK && a[0] <= b[0] && a[1] <= b[1]
			if Fits(a, b) != fits {
				t.Fatal("Fits", a, b, !fits)
			}
			var sum, rest two
			over, below := wrong, wrong
			if wrong == api.OK {
				sum, rest = two{a[0] + b[0], a[1] + b[1]}, two{b[0] - a[0], b[1] - a[1]}
				if over = whyAll(sum[0], sum[1]); over != api.OK {
					sum = two{}
				}
				if !fits {
					rest, below = two{}, api.ErrBelow
				}
			}
			if got, e := Add(a, b); got != sum || e != over {
				t.Fatal("Add", a, b, got, e)
			}
			// Of b without a the errors of b come first.
			if wrong != api.OK {
				below = whyAll(b[0], b[1], a[0], a[1])
			}
			if got, e := Sub(b, a); got != rest || e != below {
				t.Fatal("Sub", b, a, got, e)
			}
		}
	}
}

// TestFits: P1.3.
func TestFits(t *testing.T) {
	for _, c := range []struct {
		a, b two
		want bool
	}{
		{two{1, 1}, two{1, 2}, true}, {two{}, two{}, true}, {two{most, most}, two{most, most}, true}, {two{}, two{most, most}, true},
		{two{0, 3}, two{1, 2}, false}, {two{3, 0}, two{2, 1}, false}, {two{2, 3}, two{1, 2}, false},
		{two{}, two{-1, 0}, false}, {two{-1, 0}, two{}, false}, {two{0, -1}, two{0, -1}, false},
		{two{}, two{most + 1, 0}, false}, {two{}, two{0, most + 1}, false}, {two{most + 1, 0}, two{most + 1, 0}, false},
	} {
		if got := Fits(c.a, c.b); got != c.want {
			t.Errorf("Fits(%v, %v): %v", c.a, c.b, got)
		}
	}
}

// TestSum: P1.4.
func TestSum(t *testing.T) {
	for _, c := range []struct {
		l    []two
		want two
		e    api.Errno
	}{
		{nil, two{}, api.OK},
		{[]two{}, two{}, api.OK},
		{[]two{{5, 7}}, two{5, 7}, api.OK},
		{[]two{{1, 2}, {3, 4}, {5, 6}}, two{9, 12}, api.OK},
		{[]two{{most / 2, 1}, {most / 2, 1}}, two{most, 2}, api.OK},
		{[]two{{0, most}, {most, 0}, {}}, two{most, most}, api.OK},
		{[]two{{most / 2, 1}, {most / 2, 1}, {most / 2, 1}}, two{}, api.ErrOver},
		{[]two{{most, 0}, {1, 0}}, two{}, api.ErrOver},
		{[]two{{0, most}, {0, 1}}, two{}, api.ErrOver},
		{[]two{{most, 0}, {most, 0}, {0, -1}}, two{}, api.ErrBelow},
		{[]two{{0, -1}, {most + 1, 0}}, two{}, api.ErrBelow},
		{[]two{{most + 1, 0}, {-1, 0}}, two{}, api.ErrOver},
		{[]two{{-1, most + 1}}, two{}, api.ErrBelow},
		{[]two{{2, 2}, {-1, 0}}, two{}, api.ErrBelow},
	} {
		if got, e := Sum(c.l); got != c.want || e != c.e {
			t.Errorf("Sum(%v): %v, %d, not %v, %d", c.l, got, e, c.want, c.e)
		}
	}
}

// TestTotal: P1.4.
func TestTotal(t *testing.T) {
	for _, c := range []struct {
		l    []int64
		want int64
		e    api.Errno
	}{
		{nil, 0, api.OK}, {[]int64{}, 0, api.OK}, {[]int64{1, 2, 3}, 6, api.OK},
		{[]int64{most - 1, 0, 1}, most, api.OK},
		{[]int64{most, 1}, 0, api.ErrOver}, {[]int64{1, most}, 0, api.ErrOver},
		{[]int64{most, most, -1}, 0, api.ErrBelow}, {[]int64{2, -1}, 0, api.ErrBelow},
		{[]int64{most + 1, -1}, 0, api.ErrOver}, {[]int64{-1, most + 1}, 0, api.ErrBelow},
		{[]int64{math.MaxInt64, math.MaxInt64}, 0, api.ErrOver}, {[]int64{math.MinInt64, math.MinInt64}, 0, api.ErrBelow},
	} {
		if got, e := Total(c.l); got != c.want || e != c.e {
			t.Errorf("Total(%v): %d, %d, not %d, %d", c.l, got, e, c.want, c.e)
		}
	}
}

// TestLongSums: P1.4: sums that would wrap round, below 0 (2^63) or back to 0 (2^64), are over all the same.
func TestLongSums(t *testing.T) {
	for _, n := range []int{1 << 13, 1 << 14, 1<<14 + 1} {
		firsts, seconds := slices.Repeat([]two{{most, 0}}, n), slices.Repeat([]two{{0, most}}, n)
		for _, l := range [][]two{firsts, seconds} {
			if got, e := Sum(l); got != (two{}) || e != api.ErrOver {
				t.Error("Sum", n, got, e)
			}
			if got, e := Sum(append(l, two{0, -1})); got != (two{}) || e != api.ErrBelow {
				t.Error("Sum, a wrong one last", n, got, e)
			}
		}
		prices := slices.Repeat([]int64{most}, n)
		if got, e := Total(prices); got != 0 || e != api.ErrOver {
			t.Error("Total", n, got, e)
		}
		if got, e := Total(append(prices, -1)); got != 0 || e != api.ErrBelow {
			t.Error("Total, a wrong one last", n, got, e)
		}
	}
	n := 1 << 20
	if got, e := Sum(slices.Repeat([]two{{1 << 30, 1}}, n)); got != (two{most, 1 << 20}) || e != api.OK {
		t.Error("Sum", got, e)
	}
	if got, e := Total(slices.Repeat([]int64{1 << 30}, n)); got != most || e != api.OK {
		t.Error("Total", got, e)
	}
}

// TestSumKeeps: R4: a list that is handed in stays as it is, and the room behind it.
func TestSumKeeps(t *testing.T) {
	l := []two{{1, 2}, {3, 4}, {5, 6}}
	Sum(l[:2])
	if !slices.Equal(l, []two{{1, 2}, {3, 4}, {5, 6}}) {
		t.Error(l)
	}
	p := []int64{1, 2, 3}
	Total(p[:2])
	if !slices.Equal(p, []int64{1, 2, 3}) {
		t.Error(p)
	}
}

// bytesOf are the document's bytes, by arithmetic on big numbers alone.
func bytesOf(a two) (b [14]byte) {
	for i, n := range a {
		rest := big.NewInt(n)
		for k := range 7 {
			low := new(big.Int)
			rest.DivMod(rest, big.NewInt(256), low)
			b[7*i+k] = byte(low.Int64())
		}
	}
	return b
}

// TestPack: P1.5.
func TestPack(t *testing.T) {
	b, e := Pack(two{258, most})
	if got := fmt.Sprintf("% x", b); got != "02 01 00 00 00 00 00 00 00 00 00 00 00 04" || e != api.OK {
		t.Error(got, e)
	}
	if b, e := Pack(two{0x030201fffefd, 0x01020304050607}); b != [14]byte{0xfd, 0xfe, 0xff, 1, 2, 3, 0, 7, 6, 5, 4, 3, 2, 1} || e != api.OK {
		t.Errorf("% x, %d", b, e)
	}
	for _, a := range pairs(edges()) {
		want, wrong := bytesOf(a), whyAll(a[0], a[1])
		if wrong != api.OK {
			want = [14]byte{}
		}
		if b, e := Pack(a); b != want || e != wrong {
			t.Errorf("Pack(%v): % x, %d, not % x, %d", a, b, e, want, wrong)
		}
	}
}

// TestUnpack: P1.5.
func TestUnpack(t *testing.T) {
	full := [14]byte{}
	for i := range full {
		full[i] = 0xff
	}
	for _, c := range []struct {
		b    [14]byte
		want two
		e    api.Errno
	}{
		{[14]byte{}, two{}, api.OK},
		{[14]byte{0: 2, 1: 1, 13: 4}, two{258, most}, api.OK},
		{[14]byte{6: 4, 7: 1}, two{most, 1}, api.OK},
		{[14]byte{0: 0xff, 1: 0xff, 2: 0xff, 3: 0xff, 4: 0xff, 5: 0xff, 6: 3, 7: 0x80}, two{most - 1, 128}, api.OK},
		{[14]byte{0: 1, 6: 4}, two{}, api.ErrOver},
		{[14]byte{7: 1, 13: 4}, two{}, api.ErrOver},
		{[14]byte{0: 9, 13: 5}, two{}, api.ErrOver},
		{[14]byte{6: 0x80, 7: 9}, two{}, api.ErrOver},
		{full, two{}, api.ErrOver},
	} {
		if got, e := Unpack(c.b); got != c.want || e != c.e {
			t.Errorf("Unpack(% x): %v, %d, not %v, %d", c.b, got, e, c.want, c.e)
		}
	}
}

// TestAddOrder: P1.6: of two in either order, of three whichever two come first where all is told.
func TestAddOrder(t *testing.T) {
	for _, a := range few() {
		for _, b := range few() {
			ab, e := Add(a, b)
			if ba, f := Add(b, a); ab != ba || e != f {
				t.Fatal(a, b, ab, e, ba, f)
			}
			if e != api.OK {
				continue
			}
			if back, e := Sub(ab, b); back != a || e != api.OK {
				t.Fatal("Sub of Add", a, b, back, e)
			}
			for _, c := range few() {
				left, e := Add(ab, c)
				bc, f := Add(b, c)
				if e != api.OK || f != api.OK {
					continue
				}
				if right, g := Add(a, bc); left != right || g != api.OK {
					t.Fatal(a, b, c, left, right, g)
				}
			}
		}
	}
}

// TestFitsOn: P1.6: what fits into what fits; the difference fits.
func TestFitsOn(t *testing.T) {
	for _, a := range pairs(amounts()) {
		for _, b := range few() {
			if !Fits(a, b) {
				continue
			}
			if d, e := Sub(b, a); e != api.OK || !Fits(d, b) {
				t.Fatal("difference", b, a, d, e)
			}
			for _, c := range few() {
				if Fits(b, c) && !Fits(a, c) {
					t.Fatal(a, b, c)
				}
			}
		}
	}
}

// addAll adds one by one.
func addAll(l []two) (sum two, e api.Errno) {
	for _, a := range l {
		if sum, e = Add(sum, a); e != api.OK {
			return two{}, e
		}
	}
	return sum, api.OK
}

// TestSumOrder: P1.7: Sum in whatever order, and one by one.
func TestSumOrder(t *testing.T) {
	for _, a := range few() {
		for _, b := range few() {
			for _, c := range few() {
				want, we := Sum([]two{a, b, c})
				if one, e := addAll([]two{a, b, c}); one != want || e != we {
					t.Fatal("one by one", a, b, c, want, we, one, e)
				}
				for _, l := range [][]two{{a, c, b}, {b, a, c}, {b, c, a}, {c, a, b}, {c, b, a}} {
					if got, e := Sum(l); got != want || e != we {
						t.Fatal(l, got, e, want, we)
					}
				}
			}
		}
	}
}

// TestPackBack: P1.7: Unpack of Pack, and Pack of Unpack, where they are told.
func TestPackBack(t *testing.T) {
	for _, a := range pairs(amounts()) {
		b, e := Pack(a)
		if back, f := Unpack(b); back != a || e != api.OK || f != api.OK {
			t.Fatal(a, b, e, back, f)
		}
	}
	for i := range 14 {
		for v := range 256 {
			b := [14]byte{}
			b[i] = byte(v)
			a, e := Unpack(b)
			if told := i%7 != 6 || v <= 4; told != (e == api.OK) {
				t.Fatal(b, a, e)
			} else if !told {
				continue
			}
			if back, e := Pack(a); back != b || e != api.OK {
				t.Fatal(b, a, back, e)
			}
		}
	}
}
