package reqs

import (
	"math"
	"math/rand"
	"slices"
	"strconv"
	"strings"
	"testing"

	"sutler/api"
	"sutler/valset"
)

const end = 1 << 31

func in(key string, vals ...string) api.Req    { return api.Req{Key: key, Op: api.In, Vals: vals} }
func notIn(key string, vals ...string) api.Req { return api.Req{Key: key, Op: api.NotIn, Vals: vals} }
func exists(key string) api.Req                { return api.Req{Key: key, Op: api.Exists} }
func missing(key string) api.Req               { return api.Req{Key: key, Op: api.Missing} }
func above(key string, n int64) api.Req        { return api.Req{Key: key, Op: api.Above, N: n} }
func below(key string, n int64) api.Req        { return api.Req{Key: key, Op: api.Below, N: n} }

func list(miss bool, l ...string) api.Set   { return api.Set{Miss: miss, Vals: l} }
func allBut(miss bool, l ...string) api.Set { return api.Set{Miss: miss, Not: true, Vals: l} }
func numbers(lo, hi int64, but ...string) api.Set {
	return api.Set{Not: true, Num: true, Vals: but, Lo: lo, Hi: hi}
}

func labels(l ...string) []api.Label {
	var out []api.Label
	for i := 0; i < len(l); i += 2 {
		out = append(out, api.Label{Key: l[i], Val: l[i+1]})
	}
	return out
}

func many(n int) []api.Req { return slices.Repeat([]api.Req{exists("zone")}, n) }

// wide is n requirements which leave out eight values each, no two the same ones.
func wide(key string, n int) []api.Req {
	var l []api.Req
	for i := range n {
		r := notIn(key)
		for j := range api.MaxVals {
			r.Vals = append(r.Vals, "v"+strconv.Itoa(10+i)+"-"+strconv.Itoa(j))
		}
		l = append(l, r)
	}
	return l
}

func alike(a, b []Keyed) bool {
	return slices.EqualFunc(a, b, func(x, y Keyed) bool { return x.Key == y.Key && valset.Same(x.Set, y.Set) })
}

// wrong is one requirement for each of valset.Of's errors.
func wrong() []api.Req {
	return []api.Req{
		exists("Zone"), exists(""), {Key: "zone", Op: 9}, {}, in("zone"), {Key: "zone", Op: api.Exists, N: 1}, above("zone", end+1), below("zone", math.MinInt64),
		in("zone", "a", "b", "c", "d", "e", "f", "g", "h", "i"), in("zone", "A"), notIn("zone", "01"), in("zone", "a", "a"),
	}
}

// TestCheck: P4.1.
func TestCheck(t *testing.T) {
	for i, l := range [][]api.Req{nil, {}, many(1), many(8), {in("zone", "a"), in("zone", "b")}, wide("zone", 8), {above("gen", end), missing("gen")}} {
		if e := Check(l); e != api.OK {
			t.Error(i, e)
		}
	}
	for i, l := range [][]api.Req{many(9), many(16), many(1000), append([]api.Req{{}}, many(8)...), append(many(8), api.Req{}), wide("zone", 9)} {
		if e := Check(l); e != api.ErrMany {
			t.Error(i, e)
		}
	}
	for i, r := range wrong() {
		_, want := valset.Of(r)
		for at := range 8 {
			if e := Check(slices.Insert(many(7), at, r)); e != want || e == api.OK {
				t.Error(i, at, e)
			}
		}
	}
	if e := Check([]api.Req{exists("a"), in("zone", "A"), in("Zone", "a"), {}}); e != api.ErrForm {
		t.Error(e)
	}
	if e := Check([]api.Req{exists("a"), in("Zone", "a"), in("zone", "A"), {}}); e != api.ErrName {
		t.Error(e)
	}
}

// TestSets: P4.2, what is told.
func TestSets(t *testing.T) {
	var far []string
	for n := int64(end - 7); n <= end; n++ {
		far = append(far, strconv.FormatInt(n, 10))
	}
	for i, c := range []struct {
		l    []api.Req
		want []Keyed
	}{
		{nil, nil}, {[]api.Req{}, nil},
		{[]api.Req{in("zone", "b", "a")}, []Keyed{{"zone", list(false, "a", "b")}}},
		{[]api.Req{missing("zone")}, []Keyed{{"zone", list(true)}}},
		{[]api.Req{in("zone", "a", "b", "c"), notIn("zone", "b"), above("gen", 3)}, []Keyed{{"gen", numbers(4, end)}, {"zone", list(false, "a", "c")}}},
		{[]api.Req{exists("b"), exists("a-"), exists("a"), exists("a.b"), exists("a9"), exists("ab"), exists("z"), exists("a0")}, []Keyed{{"a", allBut(false)}, {"a-", allBut(false)}, {"a.b", allBut(false)}, {"a0", allBut(false)}, {"a9", allBut(false)}, {"ab", allBut(false)}, {"b", allBut(false)}, {"z", allBut(false)}}},
		{[]api.Req{notIn("zone", "b"), notIn("zone", "a")}, []Keyed{{"zone", allBut(true, "a", "b")}}},
		{[]api.Req{notIn("zone", "b"), exists("kind"), notIn("zone", "a"), missing("kind"), exists("zone")}, []Keyed{{"kind", list(false)}, {"zone", allBut(false, "a", "b")}}},
		{[]api.Req{in("zone", "a"), in("zone", "b")}, []Keyed{{"zone", list(false)}}},
		{[]api.Req{missing("zone"), notIn("zone", "a")}, []Keyed{{"zone", list(true)}}},
		{[]api.Req{above("gen", 3), below("gen", 6)}, []Keyed{{"gen", list(false, "4", "5")}}},
		{[]api.Req{above("gen", 0), notIn("gen", "1", "50", "a"), below("gen", 101)}, []Keyed{{"gen", numbers(2, 100, "50")}}},
		{[]api.Req{above("gen", end-8)}, []Keyed{{"gen", list(false, far...)}}},
		{many(16), []Keyed{{"zone", allBut(false)}}},
		{append(wide("zone", 8), wide("kind", 8)...), []Keyed{{"kind", whole(wide("kind", 8))}, {"zone", whole(wide("zone", 8))}}},
		{append(wide("zone", 8), wide("zone", 8)...), []Keyed{{"zone", whole(wide("zone", 8))}}},
		{append([]api.Req{in("zone", "a", "v10-0")}, wide("zone", 15)...), []Keyed{{"zone", list(false, "a")}}},
	} {
		if ks, e := Sets(c.l); e != api.OK || !alike(ks, c.want) {
			t.Error(i, ks, e)
		}
	}
}

// whole is all but the values that requirements leave out.
func whole(l []api.Req) api.Set {
	var vals []string
	for _, r := range l {
		vals = append(vals, r.Vals...)
	}
	slices.Sort(vals)
	return allBut(true, vals...)
}

// TestSetsWrong: P4.2, each error and which comes first; Can has the same ones (P4.4).
func TestSetsWrong(t *testing.T) {
	for i, c := range []struct {
		l []api.Req
		e api.Errno
	}{
		{many(17), api.ErrMany},
		{many(1000), api.ErrMany},
		{append([]api.Req{{}}, many(16)...), api.ErrMany},
		{append(many(16), api.Req{}), api.ErrMany},
		{wide("zone", 9), api.ErrMany},
		{append(wide("zone", 8), notIn("zone", "a")), api.ErrMany},
		// Requirements meet one by one in their order: whether those behind would have left few values doesn't matter.
		{append(wide("zone", 9), in("zone", "a")), api.ErrMany},
		{append(wide("zone", 9), missing("zone")), api.ErrMany},
		{append(append([]api.Req{in("a", "x"), in("z", "y")}, wide("zone", 9)...), in("a", "y")), api.ErrMany},
		// A requirement that may not be is told ahead of sets that can't be written, wherever it stands.
		{append(wide("zone", 9), api.Req{Key: "zone", Op: 9}), api.ErrOp},
		{append(wide("zone", 9), exists("Zone")), api.ErrName},
		{append(wide("zone", 9), in("kind", "A")), api.ErrForm},
		{append(wide("zone", 9), in("kind", "a", "a")), api.ErrTwice},
		{[]api.Req{exists("a"), in("zone", "A"), in("Zone", "a"), {}}, api.ErrForm},
	} {
		refused(t, i, c.l, c.e)
	}
	for i, r := range wrong() {
		_, want := valset.Of(r)
		for at := range 16 {
			refused(t, 100*i+at, slices.Insert(many(15), at, r), want)
		}
	}
}

func refused(t *testing.T, i int, l []api.Req, want api.Errno) {
	t.Helper()
	if ks, e := Sets(l); e != want || len(ks) != 0 {
		t.Error(i, "Sets", ks, e)
	}
	if can, e := Can(l); e != want || can {
		t.Error(i, "Can", can, e)
	}
}

// TestAdmits: P4.3, what is told.
func TestAdmits(t *testing.T) {
	hundred := labels("zone", "a")
	for i := range 100 {
		hundred = append(hundred, api.Label{Key: "k" + strconv.Itoa(i), Val: strconv.Itoa(i)})
	}
	for i, c := range []struct {
		l      []api.Req
		labels []api.Label
		want   bool
	}{
		{nil, nil, true}, {nil, labels("zone", "a"), true}, {[]api.Req{}, []api.Label{}, true},
		{[]api.Req{in("zone", "a")}, nil, false},
		{[]api.Req{in("zone", "a")}, labels("zone", "a"), true},
		{[]api.Req{in("zone", "a", "b")}, labels("zone", "b"), true},
		{[]api.Req{in("zone", "a")}, labels("zone", "b"), false},
		{[]api.Req{in("zone", "a")}, labels("kind", "a"), false},
		{[]api.Req{in("zone", "a"), notIn("kind", "spot")}, labels("zone", "a"), true},
		{[]api.Req{in("zone", "a"), notIn("kind", "spot")}, labels("zone", "a", "kind", "spot"), false},
		{[]api.Req{in("zone", "a"), notIn("kind", "spot")}, labels("kind", "od", "zone", "a"), true},
		{[]api.Req{in("zone", "a"), in("zone", "b")}, labels("zone", "a"), false},
		{[]api.Req{in("zone", "b"), in("zone", "a")}, labels("zone", "a"), false},
		{[]api.Req{notIn("zone", "a")}, nil, true},
		{[]api.Req{notIn("zone", "a"), exists("zone")}, nil, false},
		{[]api.Req{exists("zone")}, nil, false},
		{[]api.Req{exists("zone")}, labels("zone", "5"), true},
		{[]api.Req{missing("gen")}, nil, true},
		{[]api.Req{missing("gen")}, labels("gen", "5"), false},
		{[]api.Req{missing("gen")}, labels("zone", "5"), true},
		{[]api.Req{above("gen", 4)}, labels("gen", "5"), true},
		{[]api.Req{above("gen", 4)}, labels("gen", "4"), false},
		{[]api.Req{above("gen", 4)}, labels("gen", "x"), false},
		{[]api.Req{above("gen", 4)}, nil, false},
		{[]api.Req{below("gen", 4)}, labels("gen", "-7"), true},
		{[]api.Req{below("gen", 4)}, labels("gen", "4"), false},
		{[]api.Req{below("gen", 4)}, nil, false},
		{[]api.Req{above("gen", 2), below("gen", 4)}, labels("gen", "3"), true},
		{many(16), labels("zone", "a"), true},
		{append(many(15), in("zone", "b")), labels("zone", "a"), false},
		// What Sets can't write, labels may meet or not all the same.
		{wide("zone", 16), labels("zone", "b"), true},
		{wide("zone", 16), nil, true},
		{wide("zone", 16), labels("zone", "v25-7"), false},
		{append(wide("zone", 15), in("zone", "b")), labels("zone", "b"), true},
		{[]api.Req{in("zone", "a"), in("k99", "99")}, hundred, true},
		{[]api.Req{in("zone", "a"), missing("k99")}, hundred, false},
	} {
		if is, e := Admits(c.l, c.labels); is != c.want || e != api.OK {
			t.Error(i, is, e)
		}
	}
}

// TestAdmitsWrong: P4.3, each error and which comes first.
func TestAdmitsWrong(t *testing.T) {
	for i, c := range []struct {
		l      []api.Req
		labels []api.Label
		e      api.Errno
	}{
		{many(17), nil, api.ErrMany},
		{append([]api.Req{{}}, many(16)...), labels("Z", "A"), api.ErrMany},
		{append(many(16), api.Req{}), labels("zone", "a", "zone", "a"), api.ErrMany},
		{[]api.Req{{Key: "zone", Op: 9}}, labels("zone", "A"), api.ErrOp},
		{[]api.Req{exists("zone"), in("zone", "A"), {}}, labels("zone", "a", "zone", "a"), api.ErrForm},
		{[]api.Req{in("zone", "b"), in("zone", "A")}, labels("zone", "a"), api.ErrForm},
		{[]api.Req{in("zone", "b", "b")}, labels("Zone", "a"), api.ErrTwice},
		{nil, labels("Z", "a"), api.ErrForm},
		{nil, labels("", "a"), api.ErrForm},
		{nil, labels("5", "a"), api.ErrForm},
		{nil, labels(strings.Repeat("a", 17), "a"), api.ErrForm},
		{nil, labels("zone", "A"), api.ErrForm},
		{nil, labels("zone", ""), api.ErrForm},
		{nil, labels("zone", "01"), api.ErrForm},
		{nil, labels("zone", "2147483649"), api.ErrForm},
		{nil, labels("a", "a", "b", "-0", "c", "c"), api.ErrForm},
		{nil, labels("zone", "a", "zone", "a"), api.ErrTwice},
		{nil, labels("zone", "a", "zone", "b"), api.ErrTwice},
		{nil, labels("zone", "a", "kind", "b", "gen", "c", "zone", "d"), api.ErrTwice},
		{many(16), labels("zone", "a", "zone", "a"), api.ErrTwice},
		// Label by label: the first wrong one tells; of one that is wrong in both ways it is its form.
		{nil, labels("zone", "a", "zone", "a", "Z", "a"), api.ErrTwice},
		{nil, labels("zone", "a", "Z", "a", "zone", "a"), api.ErrForm},
		{nil, labels("zone", "a", "zone", "A"), api.ErrForm},
		{nil, labels("Z", "a", "Z", "a"), api.ErrForm},
		// Labels are refused, whether they would have been admitted or not.
		{[]api.Req{in("zone", "b")}, labels("zone", "a", "kind", "A"), api.ErrForm},
		{[]api.Req{in("zone", "b")}, labels("zone", "a", "zone", "b"), api.ErrTwice},
	} {
		if is, e := Admits(c.l, c.labels); is || e != c.e {
			t.Error(i, is, e)
		}
	}
	for i, r := range wrong() {
		_, want := valset.Of(r)
		for at := range 16 {
			if is, e := Admits(slices.Insert(many(15), at, r), labels("zone", "a")); is || e != want {
				t.Error(i, at, is, e)
			}
		}
	}
	for _, n := range []string{"a", "zone", "a-.9", strings.Repeat("z", 16)} {
		for _, v := range []string{"a", "0", "-1", "2147483648", "-2147483648", strings.Repeat("z", 16)} {
			if is, e := Admits(nil, labels(n, v)); !is || e != api.OK {
				t.Error(n, v, is, e)
			}
		}
	}
}

// TestCan: P4.4.
func TestCan(t *testing.T) {
	for i, c := range []struct {
		l    []api.Req
		want bool
	}{
		{nil, true}, {[]api.Req{}, true},
		{[]api.Req{in("zone", "a")}, true},
		{[]api.Req{in("zone", "a"), in("zone", "b")}, false},
		{[]api.Req{in("zone", "a"), in("kind", "b")}, true},
		{[]api.Req{in("zone", "a"), notIn("zone", "a")}, false},
		{[]api.Req{missing("zone")}, true},
		{[]api.Req{missing("zone"), notIn("zone", "a")}, true},
		{[]api.Req{missing("zone"), exists("zone")}, false},
		{[]api.Req{missing("zone"), exists("kind")}, true},
		{[]api.Req{missing("a"), in("b", "x"), exists("c"), in("b", "y"), exists("d")}, false},
		{[]api.Req{above("gen", 3), below("gen", 4)}, false},
		{[]api.Req{above("gen", 3), below("gen", 5)}, true},
		{[]api.Req{above("gen", 3), below("gen", 5), notIn("gen", "4")}, false},
		{[]api.Req{above("gen", 3), below("gen", 5), notIn("gen", "5")}, true},
		{[]api.Req{above("gen", 3), in("gen", "a", "3")}, false},
		{[]api.Req{above("gen", end)}, false}, {[]api.Req{below("gen", -end)}, false}, {[]api.Req{above("gen", end-1)}, true},
		{many(16), true}, {append(many(15), missing("zone")), false},
		{append([]api.Req{in("zone", "v10-0")}, wide("zone", 15)...), false},
	} {
		if can, e := Can(c.l); can != c.want || e != api.OK {
			t.Error(i, can, e)
		}
	}
}

// TestMeets: P4.4.
func TestMeets(t *testing.T) {
	zones := []api.Req{in("zone", "a", "b", "c"), notIn("zone", "b"), above("gen", 3)}
	for i, c := range []struct {
		a, b []api.Req
		want bool
		e    api.Errno
	}{
		{nil, nil, true, 0},
		{zones, nil, true, 0}, {nil, zones, true, 0}, {zones, zones, true, 0},
		{zones, []api.Req{in("zone", "b")}, false, 0},
		{zones, []api.Req{in("zone", "b", "c")}, true, 0},
		{zones, []api.Req{in("kind", "b")}, true, 0},
		{zones, []api.Req{below("gen", 4)}, false, 0},
		{[]api.Req{in("a", "x"), in("a", "y")}, nil, false, 0},
		{nil, []api.Req{in("a", "x"), in("a", "y")}, false, 0},
		{[]api.Req{missing("a")}, []api.Req{notIn("a", "y")}, true, 0},
		{[]api.Req{missing("a")}, []api.Req{exists("a")}, false, 0},
		{many(8), many(8), true, 0}, {many(8), append(many(7), missing("zone")), false, 0},
		{many(9), nil, false, api.ErrMany}, {nil, many(9), false, api.ErrMany}, {many(9), many(9), false, api.ErrMany}, {zones, many(9), false, api.ErrMany},
		{many(9), []api.Req{{}}, false, api.ErrMany},
		{[]api.Req{in("zone", "A")}, many(9), false, api.ErrForm},
		{[]api.Req{in("zone", "A")}, []api.Req{exists("Z")}, false, api.ErrForm},
		{[]api.Req{exists("Z")}, []api.Req{in("zone", "A")}, false, api.ErrName},
		{zones, []api.Req{exists("zone"), {Key: "k", Op: 7}, {}}, false, api.ErrOp},
		{[]api.Req{in("zone", "a", "a")}, zones, false, api.ErrTwice},
		// Together they may be too wide, though each is not; and whose stand first tells.
		{wide("zone", 8), []api.Req{notIn("zone", "a")}, false, api.ErrMany},
		{wide("zone", 8), []api.Req{notIn("zone", "a"), in("zone", "b")}, false, api.ErrMany},
		{[]api.Req{notIn("zone", "a"), in("zone", "b")}, wide("zone", 8), true, 0},
		{wide("zone", 8), wide("zone", 8), true, 0}, {wide("zone", 8), wide("kind", 8), true, 0},
	} {
		if is, e := Meets(c.a, c.b); is != c.want || e != c.e {
			t.Error(i, is, e)
		}
	}
}

func picks() ([]string, []string) {
	return []string{"gen", "kind", "zone"}, []string{"-1", "0", "1", "2", "3", "70", "a", "b", "c"}
}

// anyReq is a requirement that may be; ways of the same key meet often.
func anyReq(r *rand.Rand) api.Req {
	keys, vals := picks()
	q := api.Req{Key: keys[r.Intn(len(keys))], Op: 1 + r.Intn(6)}
	switch q.Op {
	case api.In, api.NotIn:
		for _, i := range r.Perm(len(vals))[:1+r.Intn(api.MaxVals)] {
			q.Vals = append(q.Vals, vals[i])
		}
	case api.Above, api.Below:
		q.N = int64(r.Intn(6) - 2)
	}
	return q
}

func anyReqs(r *rand.Rand, most int) []api.Req {
	var l []api.Req
	for range r.Intn(most + 1) {
		l = append(l, anyReq(r))
	}
	return l
}

func anyLabels(r *rand.Rand) []api.Label {
	keys, vals := picks()
	var l []api.Label
	for _, i := range r.Perm(len(keys))[:r.Intn(len(keys)+1)] {
		l = append(l, api.Label{Key: keys[i], Val: vals[r.Intn(len(vals))]})
	}
	return l
}

// says says anew whether labels meet a requirement.
func says(q api.Req, labels []api.Label) bool {
	at := slices.IndexFunc(labels, func(l api.Label) bool { return l.Key == q.Key })
	if at < 0 {
		return q.Op == api.NotIn || q.Op == api.Missing
	}
	v := labels[at].Val
	n, err := strconv.ParseInt(v, 10, 64)
	switch q.Op {
	case api.In:
		return slices.Contains(q.Vals, v)
	case api.NotIn:
		return !slices.Contains(q.Vals, v)
	case api.Exists:
		return true
	case api.Above:
		return err == nil && n > q.N
	case api.Below:
		return err == nil && n < q.N
	}
	return false
}

func saysAll(l []api.Req, labels []api.Label) bool {
	return !slices.ContainsFunc(l, func(q api.Req) bool { return !says(q, labels) })
}

// TestAnyAdmits: P4.3, P4.5, P4.6, of many requirements and labels.
func TestAnyAdmits(t *testing.T) {
	r := rand.New(rand.NewSource(1))
	met := 0
	for range 20000 {
		l, m, labels := anyReqs(r, 4), anyReqs(r, 3), anyLabels(r)
		is, e := Admits(l, labels)
		if want := saysAll(l, labels); is != want || e != api.OK {
			t.Fatal(l, labels, is, e)
		}
		also, _ := Admits(m, labels)
		if together, e := Admits(slices.Concat(l, m), labels); together != (is && also) || e != api.OK {
			t.Fatal(l, m, labels, together, e)
		}
		turned := slices.Concat(l, l)
		r.Shuffle(len(turned), func(i, j int) { turned[i], turned[j] = turned[j], turned[i] })
		if again, e := Admits(turned, labels); again != is || e != api.OK {
			t.Fatal(l, labels, again, e)
		}
		r.Shuffle(len(labels), func(i, j int) { labels[i], labels[j] = labels[j], labels[i] })
		if again, e := Admits(l, labels); again != is || e != api.OK {
			t.Fatal(l, labels, again, e)
		}
		if is {
			met++
			admitted(t, l, labels)
		}
	}
	if met < 1000 {
		t.Error("few are met", met)
	}
}

// admitted: what labels meet can be met, and their values are in the sets of their keys.
func admitted(t *testing.T, l []api.Req, labels []api.Label) {
	t.Helper()
	if can, e := Can(l); !can || e != api.OK {
		t.Fatal(l, labels, can, e)
	}
	ks, _ := Sets(l)
	for _, k := range ks {
		at := slices.IndexFunc(labels, func(l api.Label) bool { return l.Key == k.Key })
		if at < 0 && !k.Set.Miss || at >= 0 && !valset.Has(k.Set, labels[at].Val) {
			t.Fatal(l, labels, k)
		}
	}
}

// TestAnySets: P4.2, P4.4, P4.5, of many requirements.
func TestAnySets(t *testing.T) {
	r := rand.New(rand.NewSource(2))
	for range 20000 {
		l := anyReqs(r, api.MaxReqs)
		ks, e := Sets(l)
		if e != api.OK {
			t.Fatal(l, e)
		}
		setsAsSaid(t, l, ks)
		turned := append(slices.Clone(l), l[len(l)/2:]...)
		r.Shuffle(len(turned), func(i, j int) { turned[i], turned[j] = turned[j], turned[i] })
		if again, e := Sets(turned); e != api.OK || !alike(ks, again) {
			t.Fatal(l, turned, ks, again, e)
		}
		can, e := Can(l)
		if e != api.OK || can == slices.ContainsFunc(ks, func(k Keyed) bool { return valset.Empty(k.Set) }) {
			t.Fatal(l, can, e)
		}
		m := anyReqs(r, api.MaxReqs)
		want, _ := Can(slices.Concat(l, m))
		if is, e := Meets(l, m); is != want || e != api.OK {
			t.Fatal(l, m, is, e)
		}
	}
}

// setsAsSaid asks the sets for each value, key by key.
func setsAsSaid(t *testing.T, l []api.Req, ks []Keyed) {
	t.Helper()
	var keys []string
	for _, q := range l {
		keys = append(keys, q.Key)
	}
	slices.Sort(keys)
	keys = slices.Compact(keys)
	if len(ks) != len(keys) {
		t.Fatal(l, ks)
	}
	_, vals := picks()
	for i, k := range ks {
		of := slices.DeleteFunc(slices.Clone(l), func(q api.Req) bool { return q.Key != k.Key })
		if k.Key != keys[i] || k.Set.Miss != saysAll(of, nil) || valset.Check(k.Set) != api.OK {
			t.Fatal(l, k)
		}
		for _, v := range append(vals, "x", "99") {
			if valset.Has(k.Set, v) != saysAll(of, labels(k.Key, v)) {
				t.Fatal(l, k, v)
			}
		}
	}
}

// spare is a list with room behind it that is filled with what must stay.
func spare[T any](l []T, behind T) []T {
	out := append(slices.Clone(l), behind, behind, behind)
	return out[:len(l)]
}

// TestMemory: R4, nothing that is handed in changes, and no answer shares memory.
func TestMemory(t *testing.T) {
	a := spare([]api.Req{in("zone", "c", "a", "b"), notIn("kind", "y", "x")}, in("zone", "q"))
	b := spare([]api.Req{in("zone", "b", "a"), above("gen", end-3)}, in("zone", "q"))
	ls := spare(labels("zone", "a"), api.Label{Key: "zone", Val: "q"})
	for i := range a {
		a[i].Vals = spare(a[i].Vals, "q")
	}
	Check(a)
	Can(a)
	Admits(a, ls)
	Meets(a, b)
	ks, _ := Sets(a)
	for _, k := range ks {
		for i := range k.Set.Vals[:cap(k.Set.Vals)] {
			k.Set.Vals[:cap(k.Set.Vals)][i] = "changed-" + k.Key
		}
	}
	for _, q := range append(a[2:5:5], b[2:5:5]...) {
		if len(q.Vals) != 1 || q.Vals[0] != "q" {
			t.Error("spare room", q)
		}
	}
	for _, l := range ls[1:4] {
		if l.Val != "q" {
			t.Error("spare room", l)
		}
	}
	if !slices.Equal(a[0].Vals[:6], []string{"c", "a", "b", "q", "q", "q"}) || !slices.Equal(a[1].Vals[:5], []string{"y", "x", "q", "q", "q"}) || ls[0].Val != "a" {
		t.Error(a, ls)
	}
	for _, k := range ks {
		for _, v := range k.Set.Vals {
			if v != "changed-"+k.Key {
				t.Error("shared", k)
			}
		}
	}
	if again, e := Sets(a); e != api.OK || !alike(again, []Keyed{{"kind", allBut(true, "x", "y")}, {"zone", list(false, "a", "b", "c")}}) {
		t.Error(again, e)
	}
}

// TestOneAnswer: R5, the same answer each time, whatever order a map is gone through in.
func TestOneAnswer(t *testing.T) {
	var l []api.Req
	for _, key := range []string{"p", "c", "n", "a", "o", "b", "m", "d", "l", "e", "k", "f", "j", "g", "i", "h"} {
		l = append(l, in(key, key))
	}
	for range 100 {
		ks, e := Sets(l)
		if e != api.OK || len(ks) != 16 {
			t.Fatal(ks, e)
		}
		for i, k := range ks {
			if want := string([]byte{byte('a' + i)}); k.Key != want || !valset.Same(k.Set, list(false, want)) {
				t.Fatal(i, ks)
			}
		}
	}
}
