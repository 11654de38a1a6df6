package cool

import (
	"math"
	"math/rand"
	"slices"
	"strings"
	"testing"

	"sutler/api"
)

func at(ty, zone, kind string) api.Offer { return api.Offer{Type: ty, Zone: zone, Kind: kind} }

func till(o api.Offer, until int64) api.Cooling { return api.Cooling{Offer: o, Until: until} }

var (
	spot, od, big = at("s", "a", "spot"), at("s", "a", "od"), at("l", "a", "od")
	nought        = api.Offer{}
)

// many are n coolings that may be, each over at n and more.
func many(n int) []api.Cooling {
	var l []api.Cooling
	for i := range n {
		l = append(l, till(at("t", "z"+string([]byte{byte('a' + i/26), byte('a' + i%26)}), "od"), int64(n+i)))
	}
	return l
}

func names() (good, bad []string) {
	good = []string{"q", "zone.a", "q-.9", "z0", "zone", strings.Repeat("y", 16)}
	bad = []string{"", "A", "qU", "5", "-a", ".a", "a_b", "a b", "a\x00", "ä", "a/", "a\n", strings.Repeat("y", 17), strings.Repeat("y", 1000)}
	return good, bad
}

// TestExamples: the table of the chapter.
func TestExamples(t *testing.T) {
	l := []api.Cooling{till(spot, 30)}
	if !IsCool(l, spot, 29) || IsCool(l, spot, 30) || IsCool(l, od, 29) {
		t.Error("IsCool")
	}
	if got, e := Put(l, till(big, 5)); e != api.OK || !slices.Equal(got, []api.Cooling{till(big, 5), till(spot, 30)}) {
		t.Error(got, e)
	}
	if got, e := Put(l, till(spot, 9)); e != api.OK || !slices.Equal(got, []api.Cooling{till(spot, 9)}) {
		t.Error(got, e)
	}
	if got := Left(l, []api.Offer{od, spot}, 10); !slices.Equal(got, []api.Offer{od}) {
		t.Error(got)
	}
	for i, x := range []struct {
		l []api.Cooling
		e api.Errno
	}{
		{[]api.Cooling{till(spot, 1), till(spot, 2)}, api.ErrTwice},
		{[]api.Cooling{till(spot, -1)}, api.ErrArg},
		{[]api.Cooling{till(at("s", "", "spot"), 1)}, api.ErrName},
	} {
		if e := Check(x.l); e != x.e {
			t.Error(i, e)
		}
	}
}

// TestCheck: P7.1, each error and which comes first.
func TestCheck(t *testing.T) {
	bad := at("S", "a", "od")
	for i, x := range []struct {
		l []api.Cooling
		e api.Errno
	}{
		{nil, 0}, {[]api.Cooling{}, 0},
		{[]api.Cooling{till(spot, 0)}, 0}, {[]api.Cooling{till(spot, api.MaxTime)}, 0},
		{[]api.Cooling{till(spot, api.MaxTime+1)}, api.ErrArg}, {[]api.Cooling{till(spot, -1)}, api.ErrArg},
		{[]api.Cooling{till(spot, math.MaxInt64)}, api.ErrArg}, {[]api.Cooling{till(spot, math.MinInt64)}, api.ErrArg},
		{many(72), 0}, {many(73), api.ErrMany}, {many(500), api.ErrMany},
		{make([]api.Cooling, 72), api.ErrName}, {make([]api.Cooling, 73), api.ErrMany},
		{slices.Repeat([]api.Cooling{till(spot, -1)}, 73), api.ErrMany},
		{[]api.Cooling{till(big, 1), till(od, 1), till(spot, 1)}, 0},
		{[]api.Cooling{till(big, 9), till(od, 3), till(spot, 0)}, 0},
		// Type tells first, then Zone, then Kind; a text stands behind one that it begins with.
		{[]api.Cooling{till(at("a", "z", "z"), 1), till(at("b", "a", "a"), 1)}, 0},
		{[]api.Cooling{till(at("a", "a", "z"), 1), till(at("a", "b", "a"), 1)}, 0},
		{[]api.Cooling{till(at("a", "a", "a"), 1), till(at("a", "a", "b"), 1)}, 0},
		{[]api.Cooling{till(at("b", "a", "a"), 1), till(at("a", "z", "z"), 2)}, api.ErrTwice},
		{[]api.Cooling{till(at("a", "b", "a"), 1), till(at("a", "a", "z"), 2)}, api.ErrTwice},
		{[]api.Cooling{till(at("a", "a", "b"), 1), till(at("a", "a", "a"), 2)}, api.ErrTwice},
		{[]api.Cooling{till(at("a", "z", "z"), 1), till(at("aa", "a", "a"), 1)}, 0},
		{[]api.Cooling{till(at("aa", "a", "a"), 1), till(at("a", "z", "z"), 2)}, api.ErrTwice},
		{[]api.Cooling{till(at("a", "aa", "a"), 1), till(at("aa", "a", "a"), 1)}, 0},
		// Byte by byte: `-`, `.`, digits, letters; digits not as numbers.
		{[]api.Cooling{till(at("t-", "a", "a"), 1), till(at("t.", "a", "a"), 1), till(at("t0", "a", "a"), 1), till(at("ta", "a", "a"), 1)}, 0},
		{[]api.Cooling{till(at("t10", "a", "a"), 1), till(at("t9", "a", "a"), 1)}, 0},
		{[]api.Cooling{till(at("t9", "a", "a"), 1), till(at("t10", "a", "a"), 1)}, api.ErrTwice},
		{[]api.Cooling{till(at("t.", "a", "a"), 1), till(at("t-", "a", "a"), 1)}, api.ErrTwice},
		{[]api.Cooling{till(spot, 1), till(spot, 1)}, api.ErrTwice}, {[]api.Cooling{till(spot, 1), till(spot, 2)}, api.ErrTwice},
		{[]api.Cooling{till(od, 1), till(spot, 1), till(od, 1)}, api.ErrTwice},
		// One by one: the first wrong one tells; of one that is wrong in several ways the first of these.
		{[]api.Cooling{till(bad, -1)}, api.ErrName},
		{[]api.Cooling{till(spot, 1), till(bad, -1)}, api.ErrName},
		{[]api.Cooling{till(spot, 1), till(big, -1)}, api.ErrArg},
		{[]api.Cooling{till(bad, 1), till(bad, 1)}, api.ErrName},
		{[]api.Cooling{till(spot, 1), till(big, 1), till(bad, 1), till(spot, -1)}, api.ErrTwice},
		{[]api.Cooling{till(spot, 1), till(bad, 1), till(spot, -1), till(big, 1)}, api.ErrName},
		{[]api.Cooling{till(spot, 1), till(spot, -1), till(bad, 1), till(big, 1)}, api.ErrArg},
	} {
		if e := Check(x.l); e != x.e {
			t.Error(i, e)
		}
	}
}

// TestPlaces: P7.1 and P7.2, whatever is wrong, at each place, and handed to Put as that which is to be laid there.
func TestPlaces(t *testing.T) {
	good, bad := names()
	fields := []func(*api.Cooling) *string{
		func(c *api.Cooling) *string { return &c.Offer.Type },
		func(c *api.Cooling) *string { return &c.Offer.Zone },
		func(c *api.Cooling) *string { return &c.Offer.Kind },
	}
	refuses := func(l []api.Cooling, i int, want api.Errno) {
		t.Helper()
		if e := Check(l); e != want {
			t.Error(i, l[i], e)
		}
		if got, e := Put(many(72), l[i]); e != want || len(got) != 0 {
			t.Error("Put", l[i], got, e)
		}
		if got, e := Put(l, till(nought, -1)); e != want || len(got) != 0 {
			t.Error("Put among", l[i], got, e)
		}
	}
	for i := range 72 {
		for _, until := range []int64{-1, math.MinInt64, api.MaxTime + 1, math.MaxInt64} {
			l := many(72)
			l[i].Until = until
			refuses(l, i, api.ErrArg)
		}
		if l := many(72); i > 0 {
			l[i].Offer = l[i-1].Offer
			if got, e := Put(l, till(nought, -1)); Check(l) != api.ErrTwice || e != api.ErrTwice || len(got) != 0 {
				t.Error(i, "twice", e)
			}
		}
	}
	for _, i := range []int{0, 1, 40, 71} {
		for _, field := range fields {
			for _, s := range bad {
				l := many(72)
				*field(&l[i]) = s
				refuses(l, i, api.ErrName)
				l[i].Until = -1
				refuses(l, i, api.ErrName)
			}
		}
	}
	for _, field := range fields {
		for _, s := range good {
			c := till(spot, 1)
			*field(&c) = s
			if got, e := Put(nil, c); e != api.OK || Check([]api.Cooling{c}) != api.OK || !slices.Equal(got, []api.Cooling{c}) {
				t.Error(c, got, e)
			}
		}
	}
}

// TestPutWrong: P7.2, which error comes first, and that beside one nothing is told.
func TestPutWrong(t *testing.T) {
	bad, twice := at("s", "A", "od"), []api.Cooling{till(spot, 1), till(spot, 2)}
	for i, x := range []struct {
		l []api.Cooling
		c api.Cooling
		e api.Errno
	}{
		{many(73), till(bad, -1), api.ErrMany}, {many(73), many(73)[5], api.ErrMany},
		{twice, till(bad, -1), api.ErrTwice}, {twice, till(spot, 3), api.ErrTwice}, {twice, till(big, 3), api.ErrTwice},
		{[]api.Cooling{till(bad, 1)}, till(spot, -1), api.ErrName}, {[]api.Cooling{till(bad, 1)}, till(bad, 1), api.ErrName},
		{[]api.Cooling{till(spot, -1)}, till(bad, 1), api.ErrArg}, {[]api.Cooling{till(spot, -1)}, till(spot, 1), api.ErrArg},
		{nil, till(bad, -1), api.ErrName}, {nil, till(spot, -1), api.ErrArg}, {nil, till(spot, api.MaxTime+1), api.ErrArg}, {nil, till(nought, 0), api.ErrName},
		{[]api.Cooling{till(spot, 1)}, till(spot, -1), api.ErrArg},
		{many(72), till(bad, 1), api.ErrName}, {many(72), till(spot, -1), api.ErrArg},
		{many(72), till(spot, 1), api.ErrMany}, {many(72), till(big, 1), api.ErrMany}, {many(72), till(at("z", "z", "z"), 1), api.ErrMany},
	} {
		if got, e := Put(x.l, x.c); e != x.e || len(got) != 0 {
			t.Error(i, got, e)
		}
	}
}

// TestPut: P7.2, at each place, up to the limit, a new one and one whose offer is there.
func TestPut(t *testing.T) {
	for _, n := range []int{0, 1, 2, 3, 71, 72} {
		all := many(n)
		for i, c := range all {
			without := slices.Delete(slices.Clone(all), i, i+1)
			if got, e := Put(without, c); e != api.OK || !slices.Equal(got, all) {
				t.Error(n, i, e)
			}
			for _, until := range []int64{0, c.Until - 1, c.Until, c.Until + 1, api.MaxTime} {
				with := slices.Clone(all)
				with[i].Until = until
				if got, e := Put(all, with[i]); e != api.OK || !slices.Equal(got, with) {
					t.Error(n, i, until, e)
				}
			}
		}
	}
	var l []api.Cooling
	for _, i := range rand.New(rand.NewSource(1)).Perm(72) {
		var e api.Errno
		if l, e = Put(l, many(72)[i]); e != api.OK {
			t.Fatal(i, e)
		}
	}
	if !slices.Equal(l, many(72)) {
		t.Error(l)
	}
}

// TestAsks: P7.3, whatever the list is: times at their edges, offers that are none, one offer several times, no order.
func TestAsks(t *testing.T) {
	l := []api.Cooling{till(spot, 30), till(big, 5), till(spot, 9), till(nought, -4), till(od, math.MaxInt64), till(at("S", "a\xff", ""), math.MinInt64+1)}
	odd := l[5].Offer
	asked := []api.Offer{odd, spot, od, big, spot, nought, at("s", "a", "spo"), big, at("a", "s", "spot"), at("sa", "", "spot")}
	none := asked[8:]
	for i, x := range []struct {
		now  int64
		cool []api.Offer
		keep []int
		next int64
		is   bool
	}{
		{math.MinInt64, []api.Offer{odd, spot, od, big, nought}, []int{0, 1, 2, 3, 4, 5}, math.MinInt64 + 1, true},
		{math.MinInt64 + 1, []api.Offer{spot, od, big, nought}, []int{0, 1, 2, 3, 4}, -4, true},
		{-5, []api.Offer{spot, od, big, nought}, []int{0, 1, 2, 3, 4}, -4, true},
		{-4, []api.Offer{spot, od, big}, []int{0, 1, 2, 4}, 5, true},
		{0, []api.Offer{spot, od, big}, []int{0, 1, 2, 4}, 5, true},
		{4, []api.Offer{spot, od, big}, []int{0, 1, 2, 4}, 5, true},
		{5, []api.Offer{spot, od}, []int{0, 2, 4}, 9, true},
		{9, []api.Offer{spot, od}, []int{0, 4}, 30, true},
		{29, []api.Offer{spot, od}, []int{0, 4}, 30, true},
		{30, []api.Offer{od}, []int{4}, math.MaxInt64, true},
		{math.MaxInt64 - 1, []api.Offer{od}, []int{4}, math.MaxInt64, true},
		{math.MaxInt64, nil, nil, 0, false},
	} {
		var left []api.Offer
		for _, o := range asked {
			cool := slices.Contains(x.cool, o)
			if IsCool(l, o, x.now) != cool {
				t.Error(i, o, !cool)
			}
			if !cool {
				left = append(left, o)
			}
		}
		var keep []api.Cooling
		for _, k := range x.keep {
			keep = append(keep, l[k])
		}
		if got := Left(l, asked, x.now); !slices.Equal(got, left) {
			t.Error(i, got)
		}
		if got := Clean(l, x.now); !slices.Equal(got, keep) {
			t.Error(i, got)
		}
		if n, is := Next(l, x.now); n != x.next || is != x.is {
			t.Error(i, n, is)
		}
		if got := Left(nil, none, x.now); !slices.Equal(got, none) || len(Left(l, nil, x.now)) != 0 || len(Clean(nil, x.now)) != 0 || IsCool(nil, spot, x.now) {
			t.Error(i, "none", got)
		}
		if n, is := Next(nil, x.now); n != 0 || is {
			t.Error(i, n, is)
		}
	}
	if n, is := Next([]api.Cooling{till(spot, 0)}, -1); n != 0 || !is {
		t.Error(n, is)
	}
}

// TestLong: R1, R6: lists far beyond the limit are gone through in a moment.
func TestLong(t *testing.T) {
	const far = 300000
	offers := make([]api.Offer, far)
	l := make([]api.Cooling, far)
	for i := range l {
		offers[i] = at("t", strings.Repeat("z", i%7), string(rune('a'+i/7)))
		l[i] = till(offers[i], int64(i%2))
	}
	if got := Left(l, offers, 0); len(got) != far/2 || got[1] != offers[2] {
		t.Error(len(got))
	}
	if got := Clean(l, 0); len(got) != far/2 || got[1] != l[3] {
		t.Error(len(got))
	}
	if n, is := Next(l, 0); n != 1 || !is || !IsCool(l, offers[far-1], 0) || IsCool(l, offers[far-2], 0) {
		t.Error(n, is)
	}
	if got, e := Put(l, l[0]); e != api.ErrMany || len(got) != 0 || Check(l) != api.ErrMany {
		t.Error(e)
	}
}

func one(r *rand.Rand, l ...string) string { return l[r.Intn(len(l))] }

// anyOffer is one of few, so that much is alike; all of it is names.
func anyOffer(r *rand.Rand) api.Offer {
	return at(one(r, "a", "b", "b."), one(r, "a", "b", "ab"), one(r, "od", "spot"))
}

// anyList is coolings in no order, some of them of one offer.
func anyList(r *rand.Rand) []api.Cooling {
	var l []api.Cooling
	for range r.Intn(12) {
		l = append(l, till(anyOffer(r), r.Int63n(12)-1))
	}
	return l
}

// ahead says anew whether an offer stands ahead of another one: a byte 0, which is in no name, parts their names, and is less than all that is.
func ahead(a, b api.Offer) bool {
	return a.Type+"\x00"+a.Zone+"\x00"+a.Kind < b.Type+"\x00"+b.Zone+"\x00"+b.Kind
}

// mayBe says anew whether a list of names may be.
func mayBe(l []api.Cooling) bool {
	for i, c := range l {
		for _, d := range l[:i] {
			if !ahead(d.Offer, c.Offer) {
				return false
			}
		}
		if c.Until < 0 || c.Until > api.MaxTime {
			return false
		}
	}
	return len(l) <= api.MaxCools
}

// inOrder is what of a list may be: of an offer the first one, each ahead of the first one that stands behind it.
func inOrder(l []api.Cooling) []api.Cooling {
	var out []api.Cooling
	for _, c := range l {
		i := 0
		for i < len(out) && ahead(out[i].Offer, c.Offer) {
			i++
		}
		if c.Until >= 0 && (i == len(out) || out[i].Offer != c.Offer) {
			out = slices.Insert(out, i, c)
		}
	}
	return out
}

// latest says anew till when an offer is cool: below all times, if it isn't.
func latest(l []api.Cooling, o api.Offer) int64 {
	until := int64(math.MinInt64)
	for _, c := range l {
		if c.Offer == o {
			until = max(until, c.Until)
		}
	}
	return until
}

// TestAny: P7.1 to P7.3, of many lists.
func TestAny(t *testing.T) {
	r := rand.New(rand.NewSource(2))
	count := map[bool]int{}
	for range 20000 {
		l, c, now := anyList(r), till(anyOffer(r), r.Int63n(12)), r.Int63n(14)-2
		if r.Intn(2) == 0 {
			l = inOrder(l)
		}
		ok := mayBe(l)
		count[ok]++
		if (Check(l) == api.OK) != ok {
			t.Fatal(l, Check(l))
		}
		var want []api.Cooling
		if ok {
			want = inOrder(append([]api.Cooling{c}, l...))
		}
		if got, e := Put(l, c); (e == api.OK) != ok || e != Check(l) || !slices.Equal(got, want) {
			t.Fatal(l, c, got, e)
		}
		var offers, left []api.Offer
		for range r.Intn(20) {
			o := anyOffer(r)
			offers = append(offers, o)
			cool := latest(l, o) > now
			if IsCool(l, o, now) != cool {
				t.Fatal(l, o, now, !cool)
			}
			if !cool {
				left = append(left, o)
			}
		}
		if got := Left(l, offers, now); !slices.Equal(got, left) {
			t.Fatal(l, offers, now, got)
		}
		var keep []api.Cooling
		var times []int64
		for _, x := range l {
			if x.Until > now {
				keep, times = append(keep, x), append(times, x.Until)
			}
		}
		slices.Sort(times)
		times = append(times, 0)
		if got := Clean(l, now); !slices.Equal(got, keep) {
			t.Fatal(l, now, got)
		}
		if n, is := Next(l, now); n != times[0] || is != (len(times) > 1) {
			t.Fatal(l, now, n, is)
		}
	}
	if count[true] < 5000 || count[false] < 5000 {
		t.Error("few", count)
	}
}

// everyOffer are all that anyOffer makes.
func everyOffer() []api.Offer {
	var all []api.Offer
	for _, ty := range []string{"a", "b", "b."} {
		for _, zone := range []string{"a", "b", "ab"} {
			all = append(all, at(ty, zone, "od"), at(ty, zone, "spot"))
		}
	}
	return all
}

// TestPutFollows: P7.4, of lists that may be.
func TestPutFollows(t *testing.T) {
	r := rand.New(rand.NewSource(3))
	there := map[bool]int{}
	for range 3000 {
		l, c := inOrder(anyList(r)), till(anyOffer(r), r.Int63n(12))
		with, e := Put(l, c)
		if e != api.OK || Check(with) != api.OK {
			t.Fatal(l, c, e)
		}
		there[len(with) == len(l)]++
		for now := int64(-2); now < 14; now++ {
			for _, o := range everyOffer() {
				want := IsCool(l, o, now)
				if o == c.Offer {
					want = now < c.Until
				}
				if IsCool(with, o, now) != want {
					t.Fatal(l, c, o, now, !want)
				}
			}
		}
		if again, e := Put(with, c); e != api.OK || !slices.Equal(again, with) {
			t.Fatal(l, c, again, e)
		}
	}
	if there[true] < 500 || there[false] < 500 {
		t.Error("few", there)
	}
}

// cools are the offers that are cool.
func cools(l []api.Cooling, now int64) []api.Offer {
	return slices.DeleteFunc(everyOffer(), func(o api.Offer) bool { return !IsCool(l, o, now) })
}

// TestTimeFollows: P7.5; that something does at Next is of lists that may be alone, since of others an offer may be cool by another one of its coolings.
func TestTimeFollows(t *testing.T) {
	r := rand.New(rand.NewSource(4))
	ends := 0
	for range 3000 {
		l := anyList(r)
		may := r.Intn(2) == 0
		if may {
			l = inOrder(l)
		}
		now := r.Int63n(14) - 2
		kept := Clean(l, now)
		next, is := Next(l, now)
		if n, some := Next(kept, now); n != next || some != is || len(kept) > 0 != is {
			t.Fatal(l, now, n, some)
		}
		if may && Check(kept) != api.OK {
			t.Fatal(l, now, kept)
		}
		was := cools(l, now)
		for later := now; later < 14; later++ {
			still := cools(l, later)
			if !slices.Equal(cools(kept, later), still) {
				t.Fatal("Clean", l, now, later)
			}
			if (!is || later < next) && !slices.Equal(still, was) {
				t.Fatal("up to Next", l, now, later)
			}
			if may && is && later == next {
				ends++
				if len(still) >= len(was) {
					t.Fatal("at Next", l, now, next)
				}
			}
		}
		if left := Left(l, everyOffer(), now); len(left)+len(was) != len(everyOffer()) {
			t.Fatal(l, now, left)
		}
	}
	if ends < 500 {
		t.Error("few", ends)
	}
}

// spare is a list with room behind it that is filled with what must stay.
func spare[T any](l []T, behind T) []T {
	return append(slices.Clone(l), slices.Repeat([]T{behind}, 9)...)[:len(l)]
}

// scribble writes over a list and all the room behind it.
func scribble[T any](l []T, x T) {
	l = l[:cap(l)]
	for i := range l {
		l[i] = x
	}
}

// lists are what the calls that answer lists answer.
func lists(l []api.Cooling, offers []api.Offer) (coolings [][]api.Cooling, left [][]api.Offer) {
	for _, c := range []api.Cooling{till(big, 9), till(od, 7), till(spot, 6), till(at("z", "z", "z"), 5)} {
		with, _ := Put(l, c)
		coolings = append(coolings, with)
	}
	for _, now := range []int64{-1, 5, 20, 99} {
		coolings = append(coolings, Clean(l, now))
		left = append(left, Left(l, offers, now), Left(nil, offers, now))
	}
	return coolings, left
}

// TestMemory: R4 and R5, nothing that is handed in changes, nor the room behind it, nor is that room read; whoever writes over an answer changes neither an argument nor another answer.
func TestMemory(t *testing.T) {
	l := spare([]api.Cooling{till(big, 3), till(od, 10), till(spot, 30)}, till(at("zz", "b", "od"), 50))
	offers := spare([]api.Offer{spot, od, big, od}, at("zz", "b", "od"))
	wasL, wasOffers := slices.Clone(l[:cap(l)]), slices.Clone(offers[:cap(offers)])
	unchanged := func() {
		t.Helper()
		if !slices.Equal(l[:cap(l)], wasL) || !slices.Equal(offers[:cap(offers)], wasOffers) {
			t.Fatal("changed", l[:cap(l)], offers[:cap(offers)])
		}
	}
	told, left := lists(slices.Clone(l), slices.Clone(offers))
	for range 2 {
		a, b := lists(l, offers)
		unchanged()
		c, d := lists(l, offers)
		for i := range a {
			if !slices.Equal(a[i], told[i]) {
				t.Error(i, a[i])
			}
			scribble(a[i], till(nought, -7))
		}
		for i := range b {
			if !slices.Equal(b[i], left[i]) {
				t.Error(i, b[i])
			}
			scribble(b[i], nought)
		}
		unchanged()
		if !slices.EqualFunc(c, told, slices.Equal) || !slices.EqualFunc(d, left, slices.Equal) {
			t.Error("not the same", c, d)
		}
		Check(l)
		IsCool(l, spot, 5)
		Next(l, 5)
		unchanged()
	}
}

// TestCleared: R3, R4: what is over stays not even in the room behind the answer.
func TestCleared(t *testing.T) {
	for _, now := range []int64{0, 1, 20, 72, 100, 143, 144} {
		got := Clean(many(72), now)
		if len(got) != int(min(72, 143-min(now, 143))) {
			t.Error(now, len(got))
		}
		for _, c := range got[len(got):cap(got)] {
			if c != (api.Cooling{}) {
				t.Error(now, c)
			}
		}
	}
}
