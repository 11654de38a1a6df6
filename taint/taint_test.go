package taint

import (
	"math/rand"
	"slices"
	"strings"
	"testing"

	"sutler/api"
)

func labels(l ...string) []api.Label {
	var out []api.Label
	for i := 0; i < len(l); i += 2 {
		out = append(out, api.Label{Key: l[i], Val: l[i+1]})
	}
	return out
}

func tol(key, val string) api.Tol { return api.Tol{Key: key, Val: val} }
func whole(key string) api.Tol    { return api.Tol{Key: key, Any: true} }

// names are texts that are names, and such that are none; values likewise.
func names() (good, bad []string) {
	good = []string{"a", "z", "gpu", "a-.9", "a.", "z0", strings.Repeat("z", 16)}
	bad = []string{"", "A", "Gpu", "gpU", "5", "-a", ".a", "a_b", "a b", "a\x00", "ä", "a/", "a\n", strings.Repeat("z", 17), strings.Repeat("z", 1000)}
	return good, bad
}

func values() (good, bad []string) {
	good = []string{"a", "yes", "0", "-1", "5", "2147483648", "-2147483648", strings.Repeat("z", 16)}
	bad = []string{"", "A", "01", "-0", "+1", "-", "2147483649", "-2147483649", "1.5", "1a", " 1", "yes ", "9223372036854775808", strings.Repeat("z", 17)}
	return good, bad
}

// TestCheck: P5.1, each error and which comes first.
func TestCheck(t *testing.T) {
	for i, c := range []struct {
		l []api.Label
		e api.Errno
	}{
		{nil, 0}, {[]api.Label{}, 0},
		{labels("gpu", "yes"), 0},
		{labels("gpu", "yes", "old", "yes"), 0},
		{labels("a", "1", "b", "-5", "c", "1", "d", "x"), 0},
		{labels("a", "1", "b", "1", "c", "1", "d", "1", "e", "1"), api.ErrMany},
		{make([]api.Label, 5), api.ErrMany}, {make([]api.Label, 1000), api.ErrMany},
		{slices.Repeat(labels("gpu", "yes"), 5), api.ErrMany},
		{make([]api.Label, 4), api.ErrName},
		{labels("Gpu", "yes"), api.ErrName},
		{labels("Gpu", ""), api.ErrName},
		{labels("gpu", ""), api.ErrForm},
		{labels("gpu", "Yes"), api.ErrForm},
		{labels("gpu", "yes", "gpu", "no"), api.ErrTwice},
		{labels("gpu", "yes", "gpu", "yes"), api.ErrTwice},
		{labels("gpu", "yes", "a", "1", "b", "1", "gpu", "no"), api.ErrTwice},
		{labels("a", "1", "b", "1", "gpu", "yes", "gpu", "no"), api.ErrTwice},
		// One by one: the first wrong one tells; of one that is wrong in several ways the first of these.
		{labels("gpu", "yes", "gpu", "No"), api.ErrForm},
		{labels("gpu", "", "Gpu", "yes"), api.ErrForm},
		{labels("Gpu", "yes", "gpu", ""), api.ErrName},
		{labels("Gpu", "yes", "Gpu", "yes"), api.ErrName},
		{labels("gpu", "yes", "gpu", "no", "Gpu", "yes", "a", ""), api.ErrTwice},
		{labels("gpu", "yes", "a", "", "gpu", "no", "Gpu", "yes"), api.ErrForm},
		{labels("gpu", "yes", "Gpu", "yes", "a", "", "gpu", "no"), api.ErrName},
		{labels("gpu", "yes", "Yes", "1", "gpu", "no"), api.ErrName},
	} {
		if e := Check(c.l); e != c.e {
			t.Error(i, e)
		}
	}
}

// TestCheckPlaces: P5.1, whatever is wrong, at each place.
func TestCheckPlaces(t *testing.T) {
	goodNames, badNames := names()
	goodVals, badVals := values()
	three := labels("k1", "1", "k2", "2", "k3", "3")
	for at := range 4 {
		check := func(key, val string, want api.Errno) {
			if e := Check(slices.Insert(slices.Clone(three), at, api.Label{Key: key, Val: val})); e != want {
				t.Error(at, key, val, e)
			}
		}
		for _, n := range goodNames {
			for _, v := range goodVals {
				check(n, v, api.OK)
			}
			for _, v := range badVals {
				check(n, v, api.ErrForm)
			}
		}
		for _, n := range badNames {
			check(n, "1", api.ErrName)
			check(n, "A", api.ErrName)
		}
	}
	for i := range 4 {
		for j := range i {
			l := labels("a", "1", "b", "2", "c", "3", "d", "4")
			l[i].Key = l[j].Key
			if e := Check(l); e != api.ErrTwice {
				t.Error(i, j, e)
			}
		}
	}
}

// TestCheckTols: P5.2, each error and which comes first.
func TestCheckTols(t *testing.T) {
	yes, all, no := tol("gpu", "yes"), whole("gpu"), tol("gpu", "no")
	both := api.Tol{Key: "gpu", Val: "yes", Any: true}
	for i, c := range []struct {
		l []api.Tol
		e api.Errno
	}{
		{nil, 0}, {[]api.Tol{}, 0},
		{[]api.Tol{yes}, 0}, {[]api.Tol{all}, 0},
		{[]api.Tol{yes, all}, 0}, {[]api.Tol{all, yes}, 0}, {[]api.Tol{yes, no}, 0},
		{[]api.Tol{yes, no, all, whole("old")}, 0}, {[]api.Tol{tol("a", "yes"), tol("b", "yes"), whole("a"), whole("b")}, 0},
		{[]api.Tol{whole("a"), whole("b"), whole("c"), whole("d"), whole("e")}, api.ErrMany},
		{make([]api.Tol, 5), api.ErrMany}, {make([]api.Tol, 1000), api.ErrMany}, {slices.Repeat([]api.Tol{yes}, 5), api.ErrMany},
		{make([]api.Tol, 4), api.ErrName},
		{[]api.Tol{tol("Gpu", "yes")}, api.ErrName}, {[]api.Tol{whole("Gpu")}, api.ErrName}, {[]api.Tol{whole("")}, api.ErrName},
		{[]api.Tol{{Key: "Gpu", Val: "yes", Any: true}}, api.ErrName},
		{[]api.Tol{both}, api.ErrForm},
		{[]api.Tol{{Key: "gpu", Val: "Yes", Any: true}}, api.ErrForm},
		{[]api.Tol{tol("gpu", "")}, api.ErrForm},
		{[]api.Tol{tol("gpu", "Yes")}, api.ErrForm},
		{[]api.Tol{yes, yes}, api.ErrTwice}, {[]api.Tol{all, all}, api.ErrTwice},
		{[]api.Tol{yes, no, all, yes}, api.ErrTwice}, {[]api.Tol{yes, all, no, no}, api.ErrTwice},
		{[]api.Tol{all, yes, no, all}, api.ErrTwice},
		// One by one: the first wrong one tells; of one that is wrong in several ways the first of these.
		{[]api.Tol{both, both}, api.ErrForm},
		{[]api.Tol{whole("Gpu"), whole("Gpu")}, api.ErrName},
		{[]api.Tol{yes, yes, both, whole("Gpu")}, api.ErrTwice},
		{[]api.Tol{yes, both, yes, whole("Gpu")}, api.ErrForm},
		{[]api.Tol{yes, whole("Gpu"), both, yes}, api.ErrName},
		{[]api.Tol{all, both}, api.ErrForm},
	} {
		if e := CheckTols(c.l); e != c.e {
			t.Error(i, e)
		}
	}
}

// TestCheckTolsPlaces: P5.2, whatever is wrong, at each place.
func TestCheckTolsPlaces(t *testing.T) {
	goodNames, badNames := names()
	goodVals, badVals := values()
	three := []api.Tol{tol("k1", "1"), whole("k2"), tol("k3", "3")}
	for at := range 4 {
		check := func(o api.Tol, want api.Errno) {
			if e := CheckTols(slices.Insert(slices.Clone(three), at, o)); e != want {
				t.Error(at, o, e)
			}
		}
		for _, n := range goodNames {
			check(whole(n), api.OK)
			for _, v := range goodVals {
				check(tol(n, v), api.OK)
				check(api.Tol{Key: n, Val: v, Any: true}, api.ErrForm)
			}
			for _, v := range badVals {
				check(tol(n, v), api.ErrForm)
			}
		}
		for _, n := range badNames {
			check(tol(n, "1"), api.ErrName)
			check(tol(n, ""), api.ErrName)
			check(whole(n), api.ErrName)
		}
	}
	for i := range 4 {
		for j := range i {
			l := []api.Tol{tol("a", "1"), whole("a"), tol("a", "3"), whole("b")}
			l[i] = l[j]
			if e := CheckTols(l); e != api.ErrTwice {
				t.Error(i, j, e)
			}
		}
	}
}

// TestFirst: P5.3.
func TestFirst(t *testing.T) {
	yes, all := tol("gpu", "yes"), whole("gpu")
	none := api.Label{}
	for i, c := range []struct {
		tols   []api.Tol
		taints []api.Label
		want   api.Label
		is     bool
	}{
		{nil, nil, none, false}, {[]api.Tol{}, []api.Label{}, none, false},
		{[]api.Tol{yes, all}, nil, none, false},
		{nil, labels("gpu", "yes"), labels("gpu", "yes")[0], true},
		{nil, labels("old", "1", "gpu", "yes"), labels("old", "1")[0], true},
		{[]api.Tol{yes}, labels("gpu", "yes"), none, false},
		{[]api.Tol{yes}, labels("gpu", "no"), labels("gpu", "no")[0], true},
		{[]api.Tol{yes}, labels("old", "yes"), labels("old", "yes")[0], true},
		{[]api.Tol{all}, labels("gpu", "yes"), none, false},
		{[]api.Tol{all}, labels("old", "yes"), labels("old", "yes")[0], true},
		{[]api.Tol{all}, labels("gpu", "yes", "gpu", "no", "gpu", "5"), none, false},
		{[]api.Tol{yes}, labels("gpu", "yes", "old", "1"), labels("old", "1")[0], true},
		{[]api.Tol{yes}, labels("gpu", "yes", "old", "1", "big", "2"), labels("old", "1")[0], true},
		{[]api.Tol{yes, whole("old")}, labels("gpu", "yes", "old", "1", "big", "2"), labels("big", "2")[0], true},
		{[]api.Tol{whole("old"), yes}, labels("gpu", "yes", "old", "1"), none, false},
		// A key of one and a value of another don't make one that tolerates; nor does Any of another key.
		{[]api.Tol{tol("gpu", "no"), tol("old", "yes")}, labels("gpu", "yes"), labels("gpu", "yes")[0], true},
		{[]api.Tol{tol("gpu", "no"), whole("old")}, labels("gpu", "yes"), labels("gpu", "yes")[0], true},
		// Whatever they are: those that may not be are held against each other all the same.
		{[]api.Tol{tol("gpu", "")}, labels("gpu", ""), none, false},
		{[]api.Tol{tol("gpu", "")}, labels("gpu", "yes"), labels("gpu", "yes")[0], true},
		{[]api.Tol{{Key: "gpu", Val: "yes", Any: true}}, labels("gpu", "no"), none, false},
		{[]api.Tol{{}}, labels("", ""), none, false},
		{nil, labels("", ""), none, true},
		{[]api.Tol{whole("")}, labels("", "X y"), none, false},
		{[]api.Tol{whole("Gpu")}, labels("Gpu", "\xff"), none, false},
		{[]api.Tol{whole("Gpu")}, labels("gpu", "1"), labels("gpu", "1")[0], true},
		{[]api.Tol{tol("gpu", "01")}, labels("gpu", "1"), labels("gpu", "1")[0], true},
		{[]api.Tol{yes, yes}, labels("gpu", "yes", "gpu", "yes"), none, false},
		{[]api.Tol{whole("a"), whole("b"), whole("c"), whole("d"), whole("e")}, labels("a", "1", "b", "1", "c", "1", "d", "1", "e", "1"), none, false},
		{[]api.Tol{whole("a"), whole("b"), whole("c"), whole("d")}, labels("a", "1", "b", "1", "c", "1", "d", "1", "e", "1"), labels("e", "1")[0], true},
	} {
		if x, is := First(c.tols, c.taints); x != c.want || is != c.is {
			t.Error(i, x, is)
		}
		if Tolerates(c.tols, c.taints) == c.is {
			t.Error(i, "Tolerates", !c.is)
		}
	}
}

// pick is one of few texts, so that Tols and taints meet often; some of them are neither names nor values.
func pick(r *rand.Rand) string {
	return []string{"a", "b", "c", "1", "", "A"}[r.Intn(6)]
}

func anyTols(r *rand.Rand) []api.Tol {
	var l []api.Tol
	for range r.Intn(7) {
		l = append(l, api.Tol{Key: pick(r), Val: pick(r), Any: r.Intn(3) == 0})
	}
	return l
}

func anyTaints(r *rand.Rand) []api.Label {
	var l []api.Label
	for range r.Intn(5) {
		l = append(l, api.Label{Key: pick(r), Val: pick(r)})
	}
	return l
}

// says says anew which taint is the first one that is not tolerated: those that are stand in a table by all that is named.
func says(tols []api.Tol, taints []api.Label) int {
	keys, pairs := map[string]int{}, map[api.Label]int{}
	for _, o := range tols {
		if o.Any {
			keys[o.Key]++
		} else {
			pairs[api.Label{Key: o.Key, Val: o.Val}]++
		}
	}
	return slices.IndexFunc(taints, func(l api.Label) bool { return keys[l.Key]+pairs[l] == 0 })
}

func turned[T any](r *rand.Rand, l []T) []T {
	l = slices.Clone(l)
	r.Shuffle(len(l), func(i, j int) { l[i], l[j] = l[j], l[i] })
	return l
}

// TestAny: P5.3, P5.4, of many Tols and taints.
func TestAny(t *testing.T) {
	r := rand.New(rand.NewSource(1))
	count := map[int]int{}
	for range 30000 {
		tols, more, taints, others := anyTols(r), anyTols(r), anyTaints(r), anyTaints(r)
		at := says(tols, taints)
		x, is := First(tols, taints)
		if is != (at >= 0) || is && x != taints[at] || !is && x != (api.Label{}) {
			t.Fatal(tols, taints, x, is)
		}
		all := Tolerates(tols, taints)
		if all == is || all != Tolerates(turned(r, tols), turned(r, taints)) {
			t.Fatal("order", tols, taints, all)
		}
		if all && !Tolerates(turned(r, slices.Concat(tols, more)), taints) {
			t.Fatal("with more", tols, more, taints)
		}
		if both := Tolerates(tols, slices.Concat(taints, others)); both != (all && Tolerates(tols, others)) {
			t.Fatal("together", tols, taints, others, both)
		}
		if !Tolerates(tols, nil) || Tolerates(nil, taints) != (len(taints) == 0) {
			t.Fatal("none", tols, taints)
		}
		if len(taints) > 0 {
			count[at]++
		}
	}
	for at := -1; at < 4; at++ {
		if count[at] < 30 {
			t.Error("few are first there", at, count)
		}
	}
}

// spare is a list with room behind it that is filled with what must stay.
func spare[T any](l []T, behind T) []T {
	return append(slices.Clone(l), behind, behind, behind)[:len(l)]
}

// TestMemory: R4, nothing that is handed in changes, nor the room behind it; and what stands in that room is not read.
func TestMemory(t *testing.T) {
	taints := labels("gpu", "yes", "old", "1")
	tols := []api.Tol{tol("gpu", "yes"), whole("big")}
	a, b := spare(tols, whole("old")), spare(taints, api.Label{Key: "Bad"})
	if e := Check(b); e != api.OK {
		t.Error(e)
	}
	if e := CheckTols(a); e != api.OK {
		t.Error(e)
	}
	for range 2 {
		if x, is := First(a, b); x != taints[1] || !is || Tolerates(a, b) || !Tolerates(a, b[:1]) {
			t.Error(x, is)
		}
	}
	if !slices.Equal(a[:5], append(tols, whole("old"), whole("old"), whole("old"))) || !slices.Equal(b[:5], append(taints, labels("Bad", "", "Bad", "", "Bad", "")...)) {
		t.Error(a[:5], b[:5])
	}
}
