package catalog

import (
	"math/rand"
	"reflect"
	"slices"
	"strconv"
	"strings"
	"testing"

	"sutler/api"
	"sutler/reqs"
)

func at(ty, zone, kind string) api.Offer { return api.Offer{Type: ty, Zone: zone, Kind: kind} }

func sells(zone, kind string, price int64) api.Offering {
	return api.Offering{Zone: zone, Kind: kind, Price: price, Open: true}
}

func labeled(l ...string) []api.Label {
	var out []api.Label
	for i := 0; i < len(l); i += 2 {
		out = append(out, api.Label{Key: l[i], Val: l[i+1]})
	}
	return out
}

func in(key string, vals ...string) api.Req { return api.Req{Key: key, Op: api.In, Vals: vals} }

// small is the catalogue of the document.
func small() []api.Type {
	return []api.Type{
		{Name: "s", Cap: api.Amounts{2000, 4 << 30}, Offers: []api.Offering{sells("a", "od", 100), sells("a", "spot", 40)}},
		{Name: "l", Cap: api.Amounts{8000, 16 << 30}, Offers: []api.Offering{sells("a", "od", 300)}},
	}
}

// full is a type at all limits that may be.
func full() api.Type {
	t := api.Type{Name: strings.Repeat("z", api.MaxName), Cap: api.Amounts{api.MaxAmount, api.MaxAmount}, Over: api.Amounts{api.MaxAmount, 0}}
	t.Labels = labeled("a", "1", "b", "-5", "c", "1", "d", "x")
	t.Offers = []api.Offering{sells("a", "od", 0), sells("a", "spot", api.MaxAmount), sells("b", "od", 1), sells("b", "spot", 1), sells("od", "a", 1), {Zone: "c", Kind: "c", Price: 7}}
	return t
}

// copied shares nothing with t.
func copied(t api.Type) api.Type {
	t.Labels, t.Offers = slices.Clone(t.Labels), slices.Clone(t.Offers)
	return t
}

func names() (good, bad []string) {
	good = []string{"q", "zone.a", "q-.9", "z0", strings.Repeat("y", 16)}
	bad = []string{"", "A", "qU", "5", "-a", ".a", "a_b", "a b", "a\x00", "ä", "a/", strings.Repeat("y", 17), strings.Repeat("y", 1000)}
	return good, bad
}

func values() (good, bad []string) {
	good = []string{"a", "zone", "0", "-1", "2147483648", "-2147483648", strings.Repeat("y", 16)}
	bad = []string{"", "A", "01", "-0", "+1", "-", "2147483649", "-2147483649", "1.5", "1a", " 1", strings.Repeat("y", 17)}
	return good, bad
}

func given5() []string { return []string{"zone", "type", "kind", "pool", "host"} }

// TestExamples: the table of the chapter.
func TestExamples(t *testing.T) {
	c := small()
	all := []api.Offer{at("s", "a", "spot"), at("s", "a", "od"), at("l", "a", "od")}
	if l := Offers(c); !slices.Equal(l, all) {
		t.Error(l)
	}
	if a, is := Has(c, at("l", "a", "od")); a != (api.Amounts{8000, 1 << 34}) || !is {
		t.Error(a, is)
	}
	if n, is := Price(c, at("s", "a", "spot")); n != 40 || !is {
		t.Error(n, is)
	}
	if n, is := Price(c, at("s", "b", "od")); n != 0 || is {
		t.Error(n, is)
	}
	if l := Labels(c, at("s", "a", "od"), "p", "c1"); !slices.Equal(l, labeled("host", "c1", "kind", "od", "pool", "p", "type", "s", "zone", "a")) {
		t.Error(l)
	}
	if l, e := Match(c, all, []api.Req{in("kind", "od")}, "p", "c1"); e != api.OK || !slices.Equal(l, all[1:]) {
		t.Error(l, e)
	}
	for i, x := range []struct {
		t api.Type
		e api.Errno
	}{
		{api.Type{Name: "s", Labels: labeled("zone", "a")}, api.ErrArg},
		{api.Type{Name: "s", Cap: api.Amounts{1, 1}, Over: api.Amounts{2, 1}}, api.ErrArg},
		{api.Type{Name: "s", Offers: []api.Offering{sells("a", "od", 1), sells("a", "od", 2)}}, api.ErrTwice},
		{api.Type{Cap: api.Amounts{1, 1}}, api.ErrName},
	} {
		if e := CheckType(x.t); e != x.e {
			t.Error(i, e)
		}
	}
}

// fault is something that is wrong with a type: each in a field of its own, or ahead of what it is held against.
type fault struct {
	does func(*api.Type)
	e    api.Errno
}

// faults stand as P6.1 names them.
func faults() []fault {
	return []fault{
		{func(t *api.Type) { t.Name = "S" }, api.ErrName},
		{func(t *api.Type) { t.Cap[0] = -1 }, api.ErrBelow},
		{func(t *api.Type) { t.Cap[1] = api.MaxAmount + 1 }, api.ErrOver},
		{func(t *api.Type) { t.Over[0] = api.MaxAmount + 1 }, api.ErrOver},
		{func(t *api.Type) { t.Over[1] = -1 }, api.ErrBelow},
		{func(t *api.Type) { t.Cap[0] = min(t.Cap[0], api.MaxAmount-1) }, api.ErrArg},
		{func(t *api.Type) { t.Labels = append(t.Labels, api.Label{Key: "e", Val: "1"}) }, api.ErrMany},
		{func(t *api.Type) { t.Labels[0].Key = "A" }, api.ErrName},
		{func(t *api.Type) { t.Labels[1].Key = "pool" }, api.ErrArg},
		{func(t *api.Type) { t.Labels[2].Val = "01" }, api.ErrForm},
		{func(t *api.Type) { t.Labels[3].Key = "c" }, api.ErrTwice},
		{func(t *api.Type) { t.Offers = append(t.Offers, sells("z", "z", 1)) }, api.ErrMany},
		{func(t *api.Type) { t.Offers[0].Zone = "Z" }, api.ErrName},
		{func(t *api.Type) { t.Offers[1].Kind = "" }, api.ErrName},
		{func(t *api.Type) { t.Offers[2].Price = -1 }, api.ErrBelow},
		{func(t *api.Type) { t.Offers[3].Price = api.MaxAmount + 1 }, api.ErrOver},
		{func(t *api.Type) { t.Offers[5].Zone, t.Offers[5].Kind = "od", "a" }, api.ErrTwice},
	}
}

// TestFaults: P6.1, each fault by itself, and of two the one that is named first.
func TestFaults(t *testing.T) {
	if e := CheckType(full()); e != api.OK {
		t.Fatal(e)
	}
	l := faults()
	for i, a := range l {
		x := full()
		a.does(&x)
		if e := CheckType(x); e != a.e {
			t.Error(i, e)
		}
		for j, b := range l[i+1:] {
			x := full()
			a.does(&x)
			b.does(&x)
			if e := CheckType(x); e != a.e {
				t.Error(i, i+1+j, e)
			}
		}
	}
}

// TestCheckAmounts: P6.1, Cap and Over at their edges.
func TestCheckAmounts(t *testing.T) {
	for i, c := range []struct {
		has, over api.Amounts
		e         api.Errno
	}{
		{api.Amounts{}, api.Amounts{}, 0},
		{api.Amounts{5, 6}, api.Amounts{5, 6}, 0},
		{api.Amounts{5, 6}, api.Amounts{6, 6}, api.ErrArg},
		{api.Amounts{5, 6}, api.Amounts{5, 7}, api.ErrArg},
		{api.Amounts{5, 6}, api.Amounts{0, 7}, api.ErrArg},
		{api.Amounts{0, 0}, api.Amounts{0, 1}, api.ErrArg},
		{api.Amounts{5, 6}, api.Amounts{-1, 0}, api.ErrBelow},
		{api.Amounts{5, 6}, api.Amounts{0, -1}, api.ErrBelow},
		{api.Amounts{5, 6}, api.Amounts{api.MaxAmount, 0}, api.ErrArg},
		{api.Amounts{5, 6}, api.Amounts{api.MaxAmount + 1, -1}, api.ErrOver},
		{api.Amounts{5, 6}, api.Amounts{-1, api.MaxAmount + 1}, api.ErrBelow},
		{api.Amounts{5, 6}, api.Amounts{9, api.MaxAmount + 1}, api.ErrOver},
		{api.Amounts{api.MaxAmount, api.MaxAmount}, api.Amounts{api.MaxAmount, api.MaxAmount}, 0},
		{api.Amounts{api.MaxAmount + 1, 0}, api.Amounts{-1, 0}, api.ErrOver},
		{api.Amounts{0, api.MaxAmount + 1}, api.Amounts{}, api.ErrOver},
		{api.Amounts{-1, 0}, api.Amounts{api.MaxAmount + 1, 0}, api.ErrBelow},
		{api.Amounts{0, -1}, api.Amounts{}, api.ErrBelow},
		{api.Amounts{-1, api.MaxAmount + 1}, api.Amounts{}, api.ErrBelow},
		{api.Amounts{-5, 0}, api.Amounts{-6, 0}, api.ErrBelow},
	} {
		if e := CheckType(api.Type{Name: "s", Cap: c.has, Over: c.over}); e != c.e {
			t.Error(i, e)
		}
	}
}

// TestCheckLabels: P6.1, whatever is wrong with a label, at each place.
func TestCheckLabels(t *testing.T) {
	goodNames, badNames := names()
	goodVals, badVals := values()
	for i := range 4 {
		check := func(key, val string, want api.Errno) {
			x := full()
			x.Labels[i] = api.Label{Key: key, Val: val}
			if e := CheckType(x); e != want {
				t.Error(i, key, val, e)
			}
		}
		for _, n := range goodNames {
			for _, v := range goodVals {
				check(n, v, api.OK)
			}
			for _, v := range badVals {
				check(n, v, api.ErrForm)
			}
		}
		for _, n := range badNames {
			check(n, "1", api.ErrName)
			check(n, "A", api.ErrName)
		}
		for _, n := range given5() {
			check(n, "1", api.ErrArg)
			check(n, "A", api.ErrArg)
		}
		for _, n := range []string{"zones", "zon", "hos", "a.pool", "typ", "kinds"} {
			check(n, "1", api.OK)
		}
		for j := range i {
			check(full().Labels[j].Key, "7", api.ErrTwice)
			check(full().Labels[j].Key, full().Labels[j].Val, api.ErrTwice)
			check(full().Labels[j].Key, "07", api.ErrForm)
		}
	}
}

// TestCheckLabelsFirst: P6.1, label by label.
func TestCheckLabelsFirst(t *testing.T) {
	for i, c := range []struct {
		l []api.Label
		e api.Errno
	}{
		{nil, 0}, {[]api.Label{}, 0}, {labeled("gen", "3"), 0}, {labeled("gen", "3", "old", "3"), 0},
		{make([]api.Label, 5), api.ErrMany}, {make([]api.Label, 1000), api.ErrMany},
		{labeled("a", "1", "b", "1", "c", "1", "d", "1", "e", "1"), api.ErrMany},
		{labeled("a", "1", "b", "1", "c", "1", "zone", "", "A", ""), api.ErrMany},
		{make([]api.Label, 4), api.ErrName},
		{labeled("gen", "", "Gen", "1"), api.ErrForm},
		{labeled("Gen", "", "gen", ""), api.ErrName},
		{labeled("gen", "1", "zone", "A", "Gen", ""), api.ErrArg},
		{labeled("zone", "a", "zone", "b"), api.ErrArg},
		{labeled("gen", "1", "gen", "2", "zone", "a", "Gen", "1"), api.ErrTwice},
		{labeled("gen", "1", "gen", "A", "zone", "a"), api.ErrForm},
	} {
		x := small()[0]
		x.Labels = c.l
		if e := CheckType(x); e != c.e {
			t.Error(i, e)
		}
	}
}

// TestCheckOffers: P6.1, whatever is wrong with an offering, at each place.
func TestCheckOffers(t *testing.T) {
	goodNames, badNames := names()
	for i := range 6 {
		check := func(zone, kind string, price int64, want api.Errno) {
			for _, open := range []bool{true, false} {
				x := full()
				x.Offers[i] = api.Offering{Zone: zone, Kind: kind, Price: price, Open: open}
				if e := CheckType(x); e != want {
					t.Error(i, zone, kind, price, e)
				}
			}
		}
		for _, n := range goodNames {
			for _, price := range []int64{0, 1, api.MaxAmount} {
				check(n, "od", price, api.OK)
				check("a", n, price, api.OK)
			}
			check(n, n, -1, api.ErrBelow)
			check(n, n, -1<<63, api.ErrBelow)
			check(n, n, api.MaxAmount+1, api.ErrOver)
			check(n, n, 1<<63-1, api.ErrOver)
		}
		for _, n := range badNames {
			check(n, "od", -1, api.ErrName)
			check("a", n, -1, api.ErrName)
			check(n, n, 1, api.ErrName)
		}
		for j := range i {
			f := full().Offers[j]
			check(f.Zone, f.Kind, f.Price, api.ErrTwice)
			check(f.Zone, f.Kind, 9, api.ErrTwice)
			check(f.Zone, f.Kind, -9, api.ErrBelow)
			check(f.Zone, "q", f.Price, api.OK)
			check("q", f.Kind, f.Price, api.OK)
		}
	}
}

// TestCheckOffersFirst: P6.1, offering by offering.
func TestCheckOffersFirst(t *testing.T) {
	od, spot := sells("a", "od", 1), sells("a", "spot", 1)
	for i, c := range []struct {
		l []api.Offering
		e api.Errno
	}{
		{nil, 0}, {[]api.Offering{}, 0}, {[]api.Offering{od}, 0}, {[]api.Offering{od, spot, sells("od", "a", 1), sells("ao", "d", 1)}, 0},
		{make([]api.Offering, 7), api.ErrMany}, {make([]api.Offering, 1000), api.ErrMany}, {slices.Repeat([]api.Offering{od}, 7), api.ErrMany},
		{make([]api.Offering, 6), api.ErrName},
		{[]api.Offering{sells("a", "od", -1), sells("", "od", 1)}, api.ErrBelow},
		{[]api.Offering{sells("a", "", 1), sells("a", "od", -1)}, api.ErrName},
		{[]api.Offering{od, od, sells("a", "", 1), sells("a", "b", -1)}, api.ErrTwice},
		{[]api.Offering{od, sells("a", "b", -1), od, sells("a", "", 1)}, api.ErrBelow},
		{[]api.Offering{od, sells("a", "b", 1<<51), od}, api.ErrOver},
		{[]api.Offering{od, sells("a", "od", -1)}, api.ErrBelow},
	} {
		x := small()[0]
		x.Offers = c.l
		if e := CheckType(x); e != c.e {
			t.Error(i, e)
		}
	}
}

// TestCheckNames: P6.1, a type's name.
func TestCheckNames(t *testing.T) {
	good, bad := names()
	for _, n := range append(good, given5()...) {
		if e := CheckType(api.Type{Name: n}); e != api.OK {
			t.Error(n, e)
		}
	}
	for _, n := range bad {
		if e := CheckType(api.Type{Name: n, Cap: api.Amounts{-1, -1}}); e != api.ErrName {
			t.Error(n, e)
		}
	}
	if e := CheckType(api.Type{}); e != api.ErrName {
		t.Error(e)
	}
}

// many is so many types that may be together.
func many(n int) []api.Type {
	var l []api.Type
	for i := range n {
		x := full()
		x.Name = "t" + strconv.Itoa(i)
		l = append(l, x)
	}
	return l
}

// TestCheck: P6.2.
func TestCheck(t *testing.T) {
	bad := full()
	bad.Offers[5].Price = -1
	one, two := full(), small()[0]
	badTwo := small()[0]
	badTwo.Over[0] = 1 << 40
	for i, c := range []struct {
		l []api.Type
		e api.Errno
	}{
		{nil, 0}, {[]api.Type{}, 0}, {small(), 0}, {many(1), 0}, {many(12), 0},
		{many(13), api.ErrMany}, {make([]api.Type, 13), api.ErrMany}, {slices.Repeat([]api.Type{one}, 13), api.ErrMany}, {make([]api.Type, 1000), api.ErrMany},
		{make([]api.Type, 12), api.ErrName},
		{[]api.Type{one, two}, 0}, {[]api.Type{one, one}, api.ErrTwice},
		{[]api.Type{one, {Name: one.Name}}, api.ErrTwice},
		{[]api.Type{bad}, api.ErrBelow}, {[]api.Type{one, bad}, api.ErrBelow},
		{[]api.Type{bad, badTwo}, api.ErrBelow}, {[]api.Type{badTwo, bad}, api.ErrArg},
		{[]api.Type{one, one, badTwo}, api.ErrTwice}, {[]api.Type{one, badTwo, one}, api.ErrArg},
		{[]api.Type{two, badTwo}, api.ErrArg},
	} {
		if e := Check(c.l); e != c.e {
			t.Error(i, e)
		}
	}
	for i := range 12 {
		for j := range i {
			l := many(12)
			l[i].Name = l[j].Name
			if e := Check(l); e != api.ErrTwice {
				t.Error(i, j, e)
			}
		}
		for j, f := range faults() {
			l := many(12)
			f.does(&l[i])
			if e := Check(l); e != f.e {
				t.Error(i, j, e)
			}
		}
	}
}

// TestAsks: P6.3, P6.4, at the edges.
func TestAsks(t *testing.T) {
	c := []api.Type{full(), small()[0]}
	c[0].Name, c[1].Over = "l", api.Amounts{500, 4 << 30}
	for i, x := range []struct {
		o     api.Offer
		has   api.Amounts
		price int64
		open  bool
	}{
		{at("l", "a", "od"), api.Amounts{0, api.MaxAmount}, 0, true},
		{at("l", "a", "spot"), api.Amounts{0, api.MaxAmount}, api.MaxAmount, true},
		{at("l", "c", "c"), api.Amounts{0, api.MaxAmount}, 7, false},
		{at("l", "od", "a"), api.Amounts{0, api.MaxAmount}, 1, true},
		{at("s", "a", "od"), api.Amounts{1500, 0}, 100, true},
		{at("s", "a", "spot"), api.Amounts{1500, 0}, 40, true},
	} {
		has, is := Has(c, x.o)
		price, sold := Price(c, x.o)
		if has != x.has || price != x.price || !is || !sold || Open(c, x.o) != x.open {
			t.Error(i, has, is, price, sold, Open(c, x.o))
		}
	}
	for i, o := range []api.Offer{{}, at("", "a", "od"), at("s", "", "od"), at("s", "a", ""), at("s", "b", "od"), at("s", "od", "a"), at("m", "a", "od"), at("S", "a", "od"), at("s", "c", "c"), at("s", "a", "od "), at(strings.Repeat("s", 5000), "a", "od")} {
		has, is := Has(c, o)
		price, sold := Price(c, o)
		if has != (api.Amounts{}) || price != 0 || is || sold || Open(c, o) || len(Labels(c, o, "p", "c1")) != 0 {
			t.Error(i, has, is, price, sold)
		}
	}
}

// TestLabels: P6.4; a type's own stand among the others by their keys.
func TestLabels(t *testing.T) {
	c := small()
	c[1].Labels = labeled("zzz", "1", "a", "9", "l", "x", "pools", "-3")
	want := labeled("a", "9", "host", "c1", "kind", "od", "l", "x", "pool", "p", "pools", "-3", "type", "l", "zone", "a", "zzz", "1")
	if l := Labels(c, at("l", "a", "od"), "p", "c1"); !slices.Equal(l, want) {
		t.Error(l)
	}
	// They are told of offers that are shut too, and whatever pool and name are: these are not asked for here.
	c[0].Offers[0].Open = false
	if l := Labels(c, at("s", "a", "od"), "", "X y"); !slices.Equal(l, labeled("host", "X y", "kind", "od", "pool", "", "type", "s", "zone", "a")) {
		t.Error(l)
	}
}

// TestOrder: P6.5, each of what the order hangs on, in turn.
func TestOrder(t *testing.T) {
	c := []api.Type{
		{Name: "b", Offers: []api.Offering{sells("y", "k", 5), sells("x", "m", 5), sells("x", "k", 5), sells("a", "a", 9), {Zone: "q", Kind: "q", Price: 1}}},
		{Name: "a", Offers: []api.Offering{sells("z", "z", 5), sells("a", "b", 10), sells("b", "a", 0)}},
		{Name: "none"},
		{Name: "a.", Offers: []api.Offering{sells("a", "a", 5)}},
	}
	want := []api.Offer{at("a", "b", "a"), at("b", "q", "q"), at("a", "z", "z"), at("a.", "a", "a"), at("b", "x", "k"), at("b", "x", "m"), at("b", "y", "k"), at("b", "a", "a"), at("a", "a", "b")}
	open := slices.Delete(slices.Clone(want), 1, 2)
	if l := Offers(c); !slices.Equal(l, open) {
		t.Error(l)
	}
	r := rand.New(rand.NewSource(1))
	for range 200 {
		l := slices.Concat(want, want[2:5], []api.Offer{at("none", "a", "a"), {}, at("a", "a", "a"), at("q", "q", "q")})
		if got := Order(c, turned(r, l)); !slices.Equal(got, want) {
			t.Fatal(got)
		}
	}
	if l := Order(c, nil); len(l) != 0 {
		t.Error(l)
	}
	if l := Order(c, []api.Offer{at("b", "q", "q"), at("b", "q", "q")}); !slices.Equal(l, want[1:2]) {
		t.Error(l)
	}
}

// TestMatch: P6.6, each error, which comes first, and what is told.
func TestMatch(t *testing.T) {
	c := small()
	c[1].Labels = labeled("gen", "3")
	c[0].Offers[0].Open = false
	spot, od, big := at("s", "a", "spot"), at("s", "a", "od"), at("l", "a", "od")
	all := []api.Offer{big, od, spot, big}
	sixteen := slices.Repeat([]api.Req{in("zone", "a")}, 16)
	for i, x := range []struct {
		l          []api.Offer
		reqs       []api.Req
		pool, name string
		want       []api.Offer
		e          api.Errno
	}{
		{all, nil, "p", "c1", all, 0}, {nil, nil, "p", "c1", nil, 0},
		{[]api.Offer{{}, spot, at("s", "b", "od"), spot, at("S", "a", "od")}, nil, "p", "c1", []api.Offer{spot, spot}, 0},
		{all, []api.Req{in("kind", "od")}, "p", "c1", []api.Offer{big, od, big}, 0},
		{all, []api.Req{in("type", "s")}, "p", "c1", []api.Offer{od, spot}, 0},
		{all, []api.Req{in("zone", "b")}, "p", "c1", nil, 0},
		{all, []api.Req{in("pool", "p"), in("host", "c1")}, "p", "c1", all, 0},
		{all, []api.Req{in("pool", "p")}, "q", "c1", nil, 0},
		{all, []api.Req{in("host", "c1")}, "p", "p", nil, 0},
		{all, []api.Req{{Key: "gen", Op: api.Above, N: 2}}, "p", "c1", []api.Offer{big, big}, 0},
		{all, []api.Req{{Key: "gen", Op: api.Missing}}, "p", "c1", []api.Offer{od, spot}, 0},
		{all, []api.Req{{Key: "gen", Op: api.NotIn, Vals: []string{"4"}}}, "p", "c1", all, 0},
		{all, sixteen, "p", "c1", all, 0},
		{all, append(sixteen, in("zone", "a")), "p", "c1", nil, api.ErrMany},
		{nil, append(sixteen, in("zone", "a")), "", "", nil, api.ErrMany},
		{all, []api.Req{in("zone", "a"), {Key: "kind"}}, "P", "C", nil, api.ErrOp},
		{all, []api.Req{in("Zone", "a")}, "p", "c1", nil, api.ErrName},
		{all, []api.Req{in("zone", "A")}, "", "c1", nil, api.ErrForm},
		{all, []api.Req{in("zone", "a", "a")}, "p", "", nil, api.ErrTwice},
		{nil, []api.Req{in("zone")}, "p", "c1", nil, api.ErrOp},
		{all, nil, "", "c1", nil, api.ErrName}, {all, nil, "P", "c1", nil, api.ErrName}, {all, nil, "5", "c1", nil, api.ErrName},
		{all, nil, "p", "", nil, api.ErrName}, {all, nil, "p", "C1", nil, api.ErrName}, {all, nil, "p", "5", nil, api.ErrName},
		{nil, nil, "", "c1", nil, api.ErrName}, {nil, nil, "p", strings.Repeat("c", 17), nil, api.ErrName},
		{all, []api.Req{in("zone", "b")}, "p", "", nil, api.ErrName},
	} {
		if l, e := Match(c, x.l, x.reqs, x.pool, x.name); e != x.e || !slices.Equal(l, x.want) {
			t.Error(i, l, e)
		}
	}
}

// TestNone: a catalogue that may not be is one without types, whatever is wrong with it, and wherever.
func TestNone(t *testing.T) {
	good := small()
	var bad [][]api.Type
	for _, f := range faults() {
		x := full()
		f.does(&x)
		bad = append(bad, append(small(), x), append([]api.Type{x}, small()...))
	}
	bad = append(bad, append(small(), small()[1]), append(small(), many(11)...), append(many(11), small()...))
	all := Offers(good)
	for i, c := range bad {
		if len(Offers(c)) != 0 || len(Order(c, all)) != 0 {
			t.Error(i, Offers(c), Order(c, all))
		}
		if l, e := Match(c, all, nil, "p", "c1"); len(l) != 0 || e != api.OK {
			t.Error(i, l, e)
		}
		if _, e := Match(c, all, nil, "p", ""); e != api.ErrName {
			t.Error(i, e)
		}
		for _, o := range all {
			has, is := Has(c, o)
			price, sold := Price(c, o)
			if has != (api.Amounts{}) || is || price != 0 || sold || Open(c, o) || len(Labels(c, o, "p", "c1")) != 0 {
				t.Error(i, o, has, is, price, sold)
			}
		}
	}
}

func turned[T any](r *rand.Rand, l []T) []T {
	l = slices.Clone(l)
	r.Shuffle(len(l), func(i, j int) { l[i], l[j] = l[j], l[i] })
	return l
}

func one(r *rand.Rand, l ...string) string { return l[r.Intn(len(l))] }

// anyType is a type of few names, so that much is alike; now and then it may not be.
func anyType(r *rand.Rand) api.Type {
	t := api.Type{Name: one(r, "a", "b", "c", "d", "e", "f"), Cap: api.Amounts{r.Int63n(50), r.Int63n(50)}}
	t.Over = api.Amounts{r.Int63n(t.Cap[0] + 1), r.Int63n(t.Cap[1] + 1)}
	for _, key := range []string{"gen", "arch", "zz", "m"} {
		if r.Intn(2) == 0 {
			t.Labels = append(t.Labels, api.Label{Key: key, Val: one(r, "1", "2", "x")})
		}
	}
	t.Labels = turned(r, t.Labels)
	for _, i := range r.Perm(9)[:r.Intn(7)] {
		f := api.Offering{Zone: []string{"x", "y", "z"}[i/3], Kind: []string{"od", "spot", "x"}[i%3]}
		f.Price, f.Open = r.Int63n(4), r.Intn(4) > 0
		t.Offers = append(t.Offers, f)
	}
	if r.Intn(40) == 0 {
		t.Over[0] = t.Cap[0] + 1
	}
	return t
}

func anyTypes(r *rand.Rand) []api.Type {
	var l []api.Type
	for range r.Intn(5) {
		x := anyType(r)
		alike := func(y api.Type) bool { return x.Name == y.Name }
		if !slices.ContainsFunc(l, alike) || r.Intn(30) == 0 {
			l = append(l, x)
		}
	}
	return l
}

func anyOffer(r *rand.Rand) api.Offer {
	return at(one(r, "a", "b", "c", "d", "e", "f", ""), one(r, "x", "y", "z"), one(r, "od", "spot", "x"))
}

func anyOffers(r *rand.Rand) []api.Offer {
	var l []api.Offer
	for range r.Intn(30) {
		l = append(l, anyOffer(r))
	}
	return l
}

// listed are all offers of a catalogue, whether it may be or not.
func listed(types []api.Type) []api.Offer {
	var l []api.Offer
	for _, x := range types {
		for _, f := range x.Offers {
			l = append(l, at(x.Name, f.Zone, f.Kind))
		}
	}
	return l
}

// anyReqs are such as some offers meet and others don't.
func anyReqs(r *rand.Rand) []api.Req {
	vals := map[string][]string{"zone": {"x", "y", "z"}, "kind": {"od", "spot", "x"}, "type": {"a", "b", "c", "d", "e", "f"}, "pool": {"p", "q"}, "host": {"c1", "p"}, "gen": {"1", "2", "x"}, "arch": {"1", "2"}}
	var l []api.Req
	for range r.Intn(4) {
		key := one(r, "zone", "kind", "type", "pool", "host", "gen", "arch")
		some := turned(r, vals[key])
		switch r.Intn(5) {
		case 0, 1:
			l = append(l, api.Req{Key: key, Op: api.In, Vals: some[1:]})
		case 2:
			l = append(l, api.Req{Key: key, Op: api.NotIn, Vals: some[:1]})
		case 3:
			l = append(l, api.Req{Key: key, Op: api.Exists})
		default:
			l = append(l, api.Req{Key: "gen", Op: api.Above, N: 1})
		}
	}
	return l
}

// where says anew where an offer stands: it goes through all of the catalogue, if that may be.
func where(types []api.Type, o api.Offer) (api.Type, api.Offering, bool) {
	if Check(types) != api.OK {
		return api.Type{}, api.Offering{}, false
	}
	for _, t := range types {
		for _, f := range t.Offers {
			if o == at(t.Name, f.Zone, f.Kind) {
				return t, f, true
			}
		}
	}
	return api.Type{}, api.Offering{}, false
}

// ahead says anew whether an offer stands ahead of another one in the order of offers.
func ahead(types []api.Type, a, b api.Offer) bool {
	_, f, _ := where(types, a)
	_, g, _ := where(types, b)
	if f.Price != g.Price {
		return f.Price < g.Price
	}
	if a.Type != b.Type {
		return a.Type < b.Type
	}
	if a.Zone != b.Zone {
		return a.Zone < b.Zone
	}
	return a.Kind < b.Kind
}

// inOrder says anew which of l are wanted, each once, in order: each is put ahead of the first one that stands behind it.
func inOrder(types []api.Type, l []api.Offer, wanted func(api.Offering) bool) []api.Offer {
	var out []api.Offer
	for _, o := range l {
		_, f, is := where(types, o)
		if !is || !wanted(f) || slices.Contains(out, o) {
			continue
		}
		i := 0
		for i < len(out) && ahead(types, out[i], o) {
			i++
		}
		out = slices.Insert(out, i, o)
	}
	return out
}

// sayLabels says anew what an offer is called: by key, rising, what stands there.
func sayLabels(types []api.Type, o api.Offer, pool, name string) []api.Label {
	x, _, is := where(types, o)
	if !is {
		return nil
	}
	vals := map[string]string{"zone": o.Zone, "type": o.Type, "kind": o.Kind, "pool": pool, "host": name}
	var keys []string
	for _, l := range x.Labels {
		vals[l.Key] = l.Val
	}
	for k := range vals {
		keys = append(keys, k)
	}
	slices.Sort(keys)
	var out []api.Label
	for _, k := range keys {
		out = append(out, api.Label{Key: k, Val: vals[k]})
	}
	return out
}

// TestAnyAsks: P6.3 to P6.5, of many catalogues and offers.
func TestAnyAsks(t *testing.T) {
	r := rand.New(rand.NewSource(2))
	refused, there := 0, 0
	for range 3000 {
		c := anyTypes(r)
		if Check(c) != api.OK {
			refused++
		}
		all := listed(c)
		for _, o := range append(all, anyOffer(r)) {
			x, f, is := where(c, o)
			has, a := Has(c, o)
			price, b := Price(c, o)
			if has != (api.Amounts{x.Cap[0] - x.Over[0], x.Cap[1] - x.Over[1]}) || price != f.Price || a != is || b != is || Open(c, o) != f.Open {
				t.Fatal(c, o, has, a, price, b)
			}
			if l := Labels(c, o, "p", "c1"); !slices.Equal(l, sayLabels(c, o, "p", "c1")) {
				t.Fatal(c, o, l)
			}
			if is {
				there++
			}
		}
		if l := Offers(c); !slices.Equal(l, inOrder(c, all, func(f api.Offering) bool { return f.Open })) {
			t.Fatal(c, l)
		}
		some := turned(r, append(anyOffers(r), all[:len(all)/2]...))
		if l := Order(c, some); !slices.Equal(l, inOrder(c, some, func(api.Offering) bool { return true })) {
			t.Fatal(c, some, l)
		}
	}
	if refused < 100 || there < 5000 {
		t.Error("few", refused, there)
	}
}

// TestAnyMatch: P6.6, of many catalogues, offers and requirements.
func TestAnyMatch(t *testing.T) {
	r := rand.New(rand.NewSource(3))
	some := 0
	for range 4000 {
		c, asked := anyTypes(r), anyReqs(r)
		l := turned(r, append(listed(c), anyOffers(r)...))
		var want []api.Offer
		for _, o := range l {
			called := sayLabels(c, o, "p", "c1")
			if ok, e := reqs.Admits(asked, called); ok && e == api.OK && called != nil {
				want = append(want, o)
			}
		}
		got, e := Match(c, l, asked, "p", "c1")
		if e != api.OK || !slices.Equal(got, want) {
			t.Fatal(c, l, asked, got, e)
		}
		if all, _ := Match(c, l, nil, "p", "c1"); len(got) > 0 && len(got) < len(all) {
			some++
		}
	}
	if some < 300 {
		t.Error("few", some)
	}
}

// partOf tells whether all of a stand in b, in its order.
func partOf(a, b []api.Offer) bool {
	for _, o := range b {
		if len(a) > 0 && a[0] == o {
			a = a[1:]
		}
	}
	return len(a) == 0
}

// TestFollows: P6.7.
func TestFollows(t *testing.T) {
	r := rand.New(rand.NewSource(4))
	for range 2000 {
		c := anyTypes(r)
		l := turned(r, append(listed(c), anyOffers(r)...))
		open := Offers(c)
		if !slices.Equal(Order(c, open), open) {
			t.Fatal("Order of Offers", c, open)
		}
		last := int64(0)
		for _, o := range open {
			price, is := Price(c, o)
			if !is || price < last || !Open(c, o) {
				t.Fatal("prices", c, open)
			}
			last = price
		}
		if a, b := Order(c, l), Order(c, turned(r, l)); !slices.Equal(a, b) {
			t.Fatal("order", c, l, a, b)
		}
		a, b := anyReqs(r), anyReqs(r)
		of := func(l []api.Offer, asked []api.Req) []api.Offer {
			got, e := Match(c, l, asked, "p", "c1")
			if e != api.OK || !partOf(got, l) {
				t.Fatal("Match", c, l, asked, got, e)
			}
			return got
		}
		both := of(l, slices.Concat(a, b))
		if !slices.Equal(both, of(of(l, a), b)) || !slices.Equal(both, of(of(l, b), a)) {
			t.Fatal("together", c, l, a, b, both)
		}
	}
}

// TestOneMore: P6.8, with a type more at any place the others' answers are the same.
func TestOneMore(t *testing.T) {
	r := rand.New(rand.NewSource(5))
	told := 0
	for range 3000 {
		c, more := anyTypes(r), anyType(r)
		with := slices.Insert(slices.Clone(c), r.Intn(len(c)+1), more)
		if Check(c) != api.OK || Check(with) != api.OK {
			continue
		}
		told++
		for _, x := range c {
			for _, f := range append(x.Offers, sells("q", "q", 1)) {
				o := at(x.Name, f.Zone, f.Kind)
				h1, a1 := Has(c, o)
				h2, a2 := Has(with, o)
				p1, b1 := Price(c, o)
				p2, b2 := Price(with, o)
				if h1 != h2 || a1 != a2 || p1 != p2 || b1 != b2 || Open(c, o) != Open(with, o) || !slices.Equal(Labels(c, o, "p", "c1"), Labels(with, o, "p", "c1")) {
					t.Fatal(c, more, o)
				}
			}
		}
		others := slices.DeleteFunc(Offers(with), func(o api.Offer) bool { return o.Type == more.Name })
		if !slices.Equal(others, Offers(c)) {
			t.Fatal(c, more, others)
		}
	}
	if told < 1000 {
		t.Error("few", told)
	}
}

// spare is a list with room behind it that is filled with what must stay.
func spare[T any](l []T, behind T) []T {
	return append(slices.Clone(l), slices.Repeat([]T{behind}, 9)...)[:len(l)]
}

// TestMemory: R4, nothing that is handed in changes, nor the room behind it; what stands in that room is not read.
func TestMemory(t *testing.T) {
	make3 := func() ([]api.Type, []api.Offer, []api.Req) {
		c := spare([]api.Type{full(), small()[0]}, api.Type{})
		c[0].Name = "l"
		for i := range c {
			c[i].Labels = spare(c[i].Labels, api.Label{Key: "Bad"})
			c[i].Offers = spare(c[i].Offers, api.Offering{Price: -1})
		}
		l := spare([]api.Offer{at("s", "a", "od"), at("l", "c", "c"), {}, at("s", "a", "spot"), at("s", "a", "od")}, at("l", "a", "od"))
		asked := in("zone", "c", "a")
		asked.Vals = spare(asked.Vals, "Bad")
		return c, l, spare([]api.Req{asked}, api.Req{Op: -1})
	}
	whole := func(c []api.Type, l []api.Offer, asked []api.Req) []any {
		var all []any
		for _, x := range c {
			all = append(all, x, x.Labels[:cap(x.Labels)], x.Offers[:cap(x.Offers)])
		}
		return append(all, c[:cap(c)], l[:cap(l)], asked[:cap(asked)], asked[0].Vals[:cap(asked[0].Vals)])
	}
	c, l, asked := make3()
	was := func() []any { return whole(make3()) }()
	var told []any
	for range 2 {
		matching, e := Match(c, l, asked, "p", "c1")
		has, is := Has(c, l[0])
		price, sold := Price(c, l[0])
		now := []any{Check(c), CheckType(c[0]), Offers(c), Order(c, l), Labels(c, l[1], "p", "c1"), matching, e, has, is, price, sold, Open(c, l[0])}
		if told != nil && !reflect.DeepEqual(told, now) {
			t.Error("not the same", told, now)
		}
		told = now
	}
	if told[0] != api.OK || told[6] != api.OK || len(told[5].([]api.Offer)) != 4 || len(told[3].([]api.Offer)) != 3 {
		t.Error(told)
	}
	if now := whole(c, l, asked); !reflect.DeepEqual(now, was) {
		t.Error("changed", now)
	}
}

// scribble writes over a list and all the room behind it.
func scribble[T any](l []T, x T) {
	l = l[:cap(l)]
	for i := range l {
		l[i] = x
	}
}

// TestNew: R4, R5: whoever writes over an answer changes neither an argument nor a later answer.
func TestNew(t *testing.T) {
	c := []api.Type{full(), small()[0]}
	c[0].Name = "l"
	were := []api.Type{copied(c[0]), copied(c[1])}
	l := Order(c, append(Offers(c), at("l", "c", "c")))
	was := slices.Clone(l)
	o := l[0]
	for range 3 {
		called := sayLabels(were, o, "p", "c1")
		a, b := Labels(c, o, "p", "c1"), Labels(c, o, "p", "c1")
		scribble(a, api.Label{})
		if !slices.Equal(b, called) {
			t.Error(b)
		}
		scribble(Offers(c), api.Offer{})
		scribble(Order(c, l), api.Offer{})
		m, _ := Match(c, l, nil, "p", "c1")
		n, _ := Match(c, l, nil, "p", "c1")
		scribble(m, api.Offer{})
		if !slices.Equal(n, was) || !slices.Equal(l, was) || !slices.Equal(Order(c, l), was) || !reflect.DeepEqual(c, were) {
			t.Error(n, l, c)
		}
	}
}
