package store

import (
	"math"
	"math/rand"
	"reflect"
	"slices"
	"strconv"
	"strings"
	"testing"

	"sutler/api"
)

// got holds an answer against the one that is asked for.
func got(t *testing.T, what string, n int64, e api.Errno, wantN int64, wantE api.Errno) {
	t.Helper()
	if n != wantN || e != wantE {
		t.Errorf("%s: got %d, %d, want %d, %d", what, n, e, wantN, wantE)
	}
}

// same tells whether two items are, a nil list being an empty one.
func same(a, b api.Item) bool {
	return a.Kind == b.Kind && a.Name == b.Name && a.Version == b.Version && a.Going == b.Going &&
		slices.Equal(a.Holds, b.Holds) && string(a.Bytes) == string(b.Bytes)
}

// all is what a store has, by its kinds; of numbers that are no kinds there is nothing.
func all(t *testing.T, s *Store) []api.Item {
	t.Helper()
	var l []api.Item
	for kind := api.PodObject; kind <= api.CoolObject; kind++ {
		l = append(l, s.List(kind)...)
	}
	for _, kind := range []int{0, 6, -1, math.MinInt, math.MaxInt} {
		if x := s.List(kind); len(x) != 0 {
			t.Errorf("List(%d): got %v", kind, x)
		}
	}
	return l
}

// refused does what is to be refused, and holds the store against what it was.
func refused(t *testing.T, s *Store, what string, want api.Errno, do func() (int64, api.Errno)) {
	t.Helper()
	was, writes := all(t, s), s.Writes()
	n, e := do()
	got(t, what, n, e, 0, want)
	if s.Writes() != writes || !slices.EqualFunc(all(t, s), was, same) {
		t.Errorf("%s: changed something", what)
	}
}

// must makes an item, and answers its version.
func must(t *testing.T, s *Store, kind int, name string, b []byte) int64 {
	t.Helper()
	n, e := s.Create(kind, name, b)
	if e != api.OK {
		t.Fatalf("Create(%d, %q): got %d", kind, name, e)
	}
	return n
}

// version is what an item's is now.
func version(t *testing.T, s *Store, kind int, name string) int64 {
	t.Helper()
	x, e := s.Get(kind, name)
	if e != api.OK {
		t.Fatalf("Get(%d, %q): got %d", kind, name, e)
	}
	return x.Version
}

// full is a store with as many items as there may be, names of each kind.
func full(t *testing.T) *Store {
	s := New()
	for i := range 128 {
		must(t, s, 1+i%5, "n"+strconv.Itoa(i), nil)
	}
	return s
}

// TestExamples: the table of the chapter.
func TestExamples(t *testing.T) {
	s := New()
	n, e := s.Create(1, "x", []byte("a"))
	got(t, "Create", n, e, 1, api.OK)
	n, e = s.Create(1, "x", []byte("b"))
	got(t, "Create again", n, e, 0, api.ErrTwice)
	n, e = s.Update(1, "x", 1, []byte("c"))
	got(t, "Update", n, e, 2, api.OK)
	n, e = s.Update(1, "x", 1, []byte("d"))
	got(t, "Update of an elder one", n, e, 0, api.ErrVersion)
	got(t, "Hold", 0, s.Hold(1, "x", "life"), 0, api.OK)
	got(t, "Delete", 0, s.Delete(1, "x", 3), 0, api.OK)
	if x, e := s.Get(1, "x"); e != api.OK || !same(x, api.Item{Kind: 1, Name: "x", Version: 4, Holds: []string{"life"}, Bytes: []byte("c"), Going: true}) {
		t.Error(x, e)
	}
	n, e = s.Update(1, "x", 4, []byte("e"))
	got(t, "Update of what goes", n, e, 0, api.ErrHeld)
	got(t, "Delete again", 0, s.Delete(1, "x", 4), 0, api.ErrHeld)
	got(t, "Release", 0, s.Release(1, "x", "life"), 0, api.OK)
	if x, e := s.Get(1, "x"); e != api.ErrNone || !reflect.DeepEqual(x, api.Item{}) || s.Writes() != 5 {
		t.Error(x, e, s.Writes())
	}
}

// TestNew: P10.1, of a store without items; whatever is asked of it, it has had no writes.
func TestNew(t *testing.T) {
	s := New()
	for _, kind := range []int{math.MinInt, -1, 0, 1, 2, 3, 4, 5, 6, math.MaxInt} {
		for _, name := range []string{"", "x", "\x00", strings.Repeat("y", 51)} {
			if x, e := s.Get(kind, name); e != api.ErrNone || !reflect.DeepEqual(x, api.Item{}) {
				t.Error(kind, name, x, e)
			}
			refused(t, s, "Update", api.ErrNone, func() (int64, api.Errno) { return s.Update(kind, name, 0, make([]byte, 5000)) })
			refused(t, s, "Delete", api.ErrNone, func() (int64, api.Errno) { return 0, s.Delete(kind, name, 0) })
			refused(t, s, "Hold", api.ErrNone, func() (int64, api.Errno) { return 0, s.Hold(kind, name, "") })
			refused(t, s, "Release", api.ErrNone, func() (int64, api.Errno) { return 0, s.Release(kind, name, "") })
		}
	}
	if len(all(t, s)) != 0 || s.Writes() != 0 {
		t.Error(all(t, s), s.Writes())
	}
	must(t, s, 1, "x", nil)
	if o := New(); len(all(t, o)) != 0 || o.Writes() != 0 {
		t.Error("another one", all(t, o), o.Writes())
	}
}

// TestGet: P10.1, an item is found by its kind and all its name alone, and told with all that is said of it.
func TestGet(t *testing.T) {
	s := New()
	names := []string{"x", "xx", "X", "x ", " ", "x\x00", "\x00", "\xff", "ä", "s/a/spot", "command", strings.Repeat("y", 49), strings.Repeat("y", 50)}
	for _, name := range names {
		for kind := 1; kind <= 5; kind++ {
			n, e := s.Create(kind, name, []byte(name+strconv.Itoa(kind)))
			got(t, name, n, e, int64(s.Writes()), api.OK)
		}
	}
	for i, name := range names {
		for kind := 1; kind <= 5; kind++ {
			want := api.Item{Kind: kind, Name: name, Version: int64(5*i + kind), Bytes: []byte(name + strconv.Itoa(kind))}
			if x, e := s.Get(kind, name); e != api.OK || !same(x, want) {
				t.Error(x, e)
			}
		}
		for _, kind := range []int{0, 6, -1, 1 << 32, 1<<32 + 1, math.MinInt + 1} {
			if x, e := s.Get(kind, name); e != api.ErrNone || !reflect.DeepEqual(x, api.Item{}) {
				t.Error(kind, x, e)
			}
		}
	}
	for _, name := range []string{"", "y", "xxx", "x\x00\x00", "s/a", "s/a/spo", strings.Repeat("y", 48), strings.Repeat("y", 51), strings.Repeat("y", 1<<20)} {
		if x, e := s.Get(1, name); e != api.ErrNone || !reflect.DeepEqual(x, api.Item{}) {
			t.Error(name, x, e)
		}
	}
}

// TestList: P10.1, all of the kind and none of another one, byte by byte rising, in whatever order they came.
func TestList(t *testing.T) {
	rising := []string{"\x00", " ", "-", ".", "0", "10", "9", "X", "a", "a\x00", "a-", "a.", "a0", "aa", "ab", "b", "\x80", "ä", "\xff"}
	for seed := range int64(20) {
		s := New()
		for _, i := range rand.New(rand.NewSource(seed)).Perm(5 * len(rising)) {
			must(t, s, 1+i%5, rising[i/5], []byte{byte(i)})
		}
		for kind := 1; kind <= 5; kind++ {
			l := s.List(kind)
			if len(l) != len(rising) {
				t.Fatal(kind, len(l))
			}
			for i, x := range l {
				y, e := s.Get(kind, rising[i])
				if e != api.OK || !same(x, y) || x.Name != rising[i] || x.Kind != kind || string(x.Bytes) != string([]byte{byte(5*i + kind - 1)}) {
					t.Error(kind, i, x, y, e)
				}
			}
		}
		all(t, s)
	}
	s := New()
	must(t, s, 2, "b", nil)
	got(t, "Hold", 0, s.Hold(2, "b", "w"), 0, api.OK)
	got(t, "Delete", 0, s.Delete(2, "b", 2), 0, api.OK)
	// What is Going is there all the same.
	if l := s.List(2); len(l) != 1 || !same(l[0], api.Item{Kind: 2, Name: "b", Version: 3, Holds: []string{"w"}, Going: true}) {
		t.Error(l)
	}
	got(t, "Release", 0, s.Release(2, "b", "w"), 0, api.OK)
	if l := s.List(2); len(l) != 0 {
		t.Error(l)
	}
}

// TestCreate: P10.2, each error, which comes first, and the edges.
func TestCreate(t *testing.T) {
	good, long, limit := []byte("b"), make([]byte, 4097), strings.Repeat("n", 50)
	for _, x := range []struct {
		kind int
		name string
		b    []byte
		e    api.Errno
	}{
		{1, "x", good, 0}, {5, "x", good, 0}, {1, "n", nil, 0}, {1, "\xff\x00", []byte{}, 0},
		{0, "x", good, api.ErrArg}, {6, "x", good, api.ErrArg}, {-1, "x", good, api.ErrArg},
		{math.MinInt, "x", good, api.ErrArg}, {math.MaxInt, "x", good, api.ErrArg}, {1 << 32, "x", good, api.ErrArg},
		{1, "", good, api.ErrArg}, {5, limit, good, 0}, {1, limit + "n", good, api.ErrArg}, {1, strings.Repeat("n", 1<<20), good, api.ErrArg},
		// Bytes are counted, no signs.
		{1, strings.Repeat("ä", 25), good, 0}, {1, strings.Repeat("ä", 26), good, api.ErrArg},
		{1, "x", long[:4096], 0}, {1, "x", long, api.ErrLong}, {1, "x", make([]byte, 1<<20), api.ErrLong},
		{0, "x", long, api.ErrArg}, {6, "there", long, api.ErrArg}, {1, "", long, api.ErrArg}, {3, limit + "n", long, api.ErrArg},
		{2, "there", good, api.ErrTwice}, {2, "there", long, api.ErrLong}, {2, "going", good, api.ErrTwice}, {2, "going", long, api.ErrLong},
		{1, "there", good, 0}, {3, "going", good, 0}, {2, "ther", good, 0}, {2, "there ", good, 0},
	} {
		s := New()
		must(t, s, 2, "there", []byte("t"))
		must(t, s, 2, "going", []byte("g"))
		got(t, "Hold", 0, s.Hold(2, "going", "w"), 0, api.OK)
		got(t, "Delete", 0, s.Delete(2, "going", 3), 0, api.OK)
		if x.e != api.OK {
			refused(t, s, x.name, x.e, func() (int64, api.Errno) { return s.Create(x.kind, x.name, x.b) })
			continue
		}
		n, e := s.Create(x.kind, x.name, x.b)
		got(t, x.name, n, e, 5, api.OK)
		if y, e := s.Get(x.kind, x.name); e != api.OK || s.Writes() != 5 || !same(y, api.Item{Kind: x.kind, Name: x.name, Version: 5, Bytes: x.b}) {
			t.Error(x.kind, x.name, y, e)
		}
	}
}

// TestMany: P10.2, how many items there may be, of all kinds together; what is Going counts; what is there no more does not.
func TestMany(t *testing.T) {
	s := full(t)
	for kind := 1; kind <= 5; kind++ {
		refused(t, s, "one more", api.ErrMany, func() (int64, api.Errno) { return s.Create(kind, "more", nil) })
	}
	refused(t, s, "no name", api.ErrArg, func() (int64, api.Errno) { return s.Create(1, "", nil) })
	refused(t, s, "long", api.ErrLong, func() (int64, api.Errno) { return s.Create(1, "more", make([]byte, 4097)) })
	refused(t, s, "twice", api.ErrTwice, func() (int64, api.Errno) { return s.Create(1, "n0", nil) })
	n, e := s.Update(1, "n0", 1, []byte("u"))
	got(t, "Update", n, e, 129, api.OK)
	got(t, "Hold", 0, s.Hold(1, "n0", "w"), 0, api.OK)
	got(t, "Delete", 0, s.Delete(1, "n0", 130), 0, api.OK)
	refused(t, s, "Going", api.ErrMany, func() (int64, api.Errno) { return s.Create(5, "more", nil) })
	got(t, "Release", 0, s.Release(1, "n0", "w"), 0, api.OK)
	n, e = s.Create(5, "more", nil)
	got(t, "room", n, e, 133, api.OK)
	refused(t, s, "full again", api.ErrMany, func() (int64, api.Errno) { return s.Create(1, "n0", nil) })
	got(t, "Delete at once", 0, s.Delete(2, "n1", 2), 0, api.OK)
	n, e = s.Create(1, "n0", nil)
	got(t, "room again", n, e, 135, api.OK)
	if len(all(t, s)) != 128 {
		t.Error(len(all(t, s)))
	}
}

// TestUpdate: P10.2, each error, which comes first, and that nothing but the bytes and the version changes.
func TestUpdate(t *testing.T) {
	long := make([]byte, 4097)
	for _, going := range []bool{false, true} {
		for _, x := range []struct {
			kind    int
			name    string
			version int64
			b       []byte
			e       api.Errno
		}{
			{1, "x", 4, nil, 0}, {1, "x", 4, []byte{}, 0}, {1, "x", 4, []byte("a"), 0}, {1, "x", 4, []byte("other"), 0}, {1, "x", 4, long[:4096], 0},
			{1, "y", 4, long, api.ErrNone}, {2, "x", 4, nil, api.ErrNone}, {0, "x", 4, nil, api.ErrNone}, {1, "", 4, nil, api.ErrNone}, {1, "x\x00", 4, nil, api.ErrNone},
			{1, "x", 3, nil, api.ErrVersion}, {1, "x", 5, long, api.ErrVersion}, {1, "x", 1, long, api.ErrVersion},
			{1, "x", 0, nil, api.ErrVersion}, {1, "x", -1, nil, api.ErrVersion}, {1, "x", 4 + 1<<32, nil, api.ErrVersion},
			{1, "x", math.MaxInt64, nil, api.ErrVersion}, {1, "x", math.MinInt64, nil, api.ErrVersion},
			{1, "x", 4, long, api.ErrLong}, {1, "x", 4, make([]byte, 1<<20), api.ErrLong},
		} {
			s := New()
			must(t, s, 1, "x", []byte("a"))
			must(t, s, 3, "x", []byte("z"))
			got(t, "Hold", 0, s.Hold(1, "x", "v"), 0, api.OK)
			got(t, "Hold", 0, s.Hold(1, "x", "u"), 0, api.OK)
			want := x.e
			if going {
				got(t, "Delete", 0, s.Delete(1, "x", 4), 0, api.OK)
				if x.name == "x" && x.kind == 1 && x.version < 6 {
					x.version++
				}
				if want == api.OK {
					want = api.ErrHeld
				}
			}
			if want != api.OK {
				refused(t, s, x.name, want, func() (int64, api.Errno) { return s.Update(x.kind, x.name, x.version, x.b) })
				continue
			}
			n, e := s.Update(x.kind, x.name, x.version, x.b)
			got(t, x.name, n, e, 5, api.OK)
			want1 := api.Item{Kind: 1, Name: "x", Version: 5, Holds: []string{"u", "v"}, Bytes: x.b}
			want3 := api.Item{Kind: 3, Name: "x", Version: 2, Bytes: []byte("z")}
			if l := all(t, s); s.Writes() != 5 || !slices.EqualFunc(l, []api.Item{want1, want3}, same) {
				t.Error(l, s.Writes())
			}
		}
	}
}

// TestDelete: P10.2, at once, or by what holds it.
func TestDelete(t *testing.T) {
	s := New()
	must(t, s, 1, "x", []byte("a"))
	must(t, s, 2, "x", []byte("b"))
	must(t, s, 1, "y", []byte("c"))
	for _, x := range []struct {
		kind    int
		name    string
		version int64
		e       api.Errno
	}{
		{3, "x", 1, api.ErrNone}, {1, "z", 1, api.ErrNone}, {0, "x", 1, api.ErrNone}, {6, "x", 1, api.ErrNone}, {1, "", 0, api.ErrNone}, {1, "z", 99, api.ErrNone},
		{1, "x", 2, api.ErrVersion}, {1, "x", 0, api.ErrVersion}, {1, "x", -1, api.ErrVersion}, {1, "x", 3, api.ErrVersion},
		{1, "x", math.MaxInt64, api.ErrVersion}, {1, "x", math.MinInt64, api.ErrVersion}, {1, "x", 1 + 1<<32, api.ErrVersion},
	} {
		refused(t, s, x.name, x.e, func() (int64, api.Errno) { return 0, s.Delete(x.kind, x.name, x.version) })
	}
	got(t, "at once", 0, s.Delete(1, "x", 1), 0, api.OK)
	if l := all(t, s); s.Writes() != 4 || len(l) != 2 || l[0].Name != "y" || l[0].Version != 3 || l[1].Kind != 2 || l[1].Version != 2 {
		t.Error(l, s.Writes())
	}
	refused(t, s, "behind", api.ErrNone, func() (int64, api.Errno) { return 0, s.Delete(1, "x", 4) })
	n, e := s.Create(1, "x", []byte("new"))
	got(t, "anew", n, e, 5, api.OK)
	refused(t, s, "of the elder one", api.ErrVersion, func() (int64, api.Errno) { return 0, s.Delete(1, "x", 1) })
	got(t, "Hold", 0, s.Hold(1, "x", "w"), 0, api.OK)
	refused(t, s, "ahead of the hold", api.ErrVersion, func() (int64, api.Errno) { return 0, s.Delete(1, "x", 5) })
	got(t, "held", 0, s.Delete(1, "x", 6), 0, api.OK)
	if x, e := s.Get(1, "x"); e != api.OK || !same(x, api.Item{Kind: 1, Name: "x", Version: 7, Holds: []string{"w"}, Bytes: []byte("new"), Going: true}) {
		t.Error(x, e)
	}
	refused(t, s, "Going", api.ErrHeld, func() (int64, api.Errno) { return 0, s.Delete(1, "x", 7) })
	refused(t, s, "Going, of an elder one", api.ErrVersion, func() (int64, api.Errno) { return 0, s.Delete(1, "x", 6) })
	// What was held, and is no more, goes at once.
	got(t, "Hold", 0, s.Hold(2, "x", "w"), 0, api.OK)
	got(t, "Release", 0, s.Release(2, "x", "w"), 0, api.OK)
	got(t, "held no more", 0, s.Delete(2, "x", 9), 0, api.OK)
	if _, e := s.Get(2, "x"); e != api.ErrNone || s.Writes() != 10 {
		t.Error(e, s.Writes())
	}
}

// TestHold: P10.2, each error, which comes first, and how those that hold stand.
func TestHold(t *testing.T) {
	whos := []string{"m", "a\x00", "\xff", strings.Repeat("w", 16), "a", "A", "m ", "n"}
	for i := range whos {
		for _, going := range []bool{false, true} {
			s := New()
			must(t, s, 1, "x", []byte("b"))
			must(t, s, 4, "x", nil)
			var hold []string
			for n := range 4 {
				who := whos[(i+n)%len(whos)]
				got(t, who, 0, s.Hold(1, "x", who), 0, api.OK)
				hold = append(hold, who)
				slices.Sort(hold)
				want := api.Item{Kind: 1, Name: "x", Version: int64(n + 3), Holds: hold, Bytes: []byte("b")}
				if x, e := s.Get(1, "x"); e != api.OK || s.Writes() != n+3 || !same(x, want) {
					t.Error(x, e, s.Writes())
				}
				refused(t, s, who, api.ErrTwice, func() (int64, api.Errno) { return 0, s.Hold(1, "x", who) })
			}
			twice, many := api.ErrTwice, api.ErrMany
			if going {
				got(t, "Delete", 0, s.Delete(1, "x", 6), 0, api.OK)
				twice, many = api.ErrHeld, api.ErrHeld
			}
			for _, who := range hold {
				refused(t, s, who, twice, func() (int64, api.Errno) { return 0, s.Hold(1, "x", who) })
			}
			refused(t, s, "a fifth one", many, func() (int64, api.Errno) { return 0, s.Hold(1, "x", "fifth") })
			for _, who := range []string{"", strings.Repeat("w", 17), strings.Repeat("ä", 9), strings.Repeat("w", 1<<20)} {
				refused(t, s, who, api.ErrArg, func() (int64, api.Errno) { return 0, s.Hold(1, "x", who) })
				refused(t, s, who, api.ErrNone, func() (int64, api.Errno) { return 0, s.Hold(1, "y", who) })
				refused(t, s, who, api.ErrNone, func() (int64, api.Errno) { return 0, s.Hold(2, "x", who) })
			}
			// Each item has four of its own.
			got(t, "another one", 0, s.Hold(4, "x", whos[i]), 0, api.OK)
		}
	}
	// Going comes first of an item that fewer hold, too.
	s := New()
	must(t, s, 1, "x", nil)
	got(t, "Hold", 0, s.Hold(1, "x", "a"), 0, api.OK)
	got(t, "Delete", 0, s.Delete(1, "x", 2), 0, api.OK)
	refused(t, s, "Going", api.ErrHeld, func() (int64, api.Errno) { return 0, s.Hold(1, "x", "b") })
	refused(t, s, "Going, held", api.ErrHeld, func() (int64, api.Errno) { return 0, s.Hold(1, "x", "a") })
	refused(t, s, "Going, nobody", api.ErrArg, func() (int64, api.Errno) { return 0, s.Hold(1, "x", "") })
}

// perms are all orders of some texts.
func perms(l []string) [][]string {
	if len(l) == 0 {
		return [][]string{nil}
	}
	var out [][]string
	for i := range l {
		for _, p := range perms(append(slices.Clone(l[:i]), l[i+1:]...)) {
			out = append(out, append([]string{l[i]}, p...))
		}
	}
	return out
}

// TestRelease: P10.2 and P10.3, in every order: what is Going goes with the last one that holds it, never ahead; what is not Going stays.
func TestRelease(t *testing.T) {
	whos := []string{"a", "b", "c", strings.Repeat("w", 16)}
	for _, order := range perms(whos) {
		for _, going := range []bool{false, true} {
			s := New()
			must(t, s, 1, "x", []byte("b"))
			must(t, s, 2, "x", nil)
			for _, who := range whos {
				got(t, who, 0, s.Hold(1, "x", who), 0, api.OK)
				got(t, who, 0, s.Hold(2, "x", who), 0, api.OK)
			}
			if going {
				got(t, "Delete", 0, s.Delete(1, "x", version(t, s, 1, "x")), 0, api.OK)
			}
			hold, writes := slices.Clone(whos), s.Writes()
			for i, who := range order {
				for _, none := range []string{"", "d", "aa", "ab", strings.Repeat("w", 15), strings.Repeat("w", 17), strings.Repeat("w", 1<<20)} {
					refused(t, s, none, api.ErrArg, func() (int64, api.Errno) { return 0, s.Release(1, "x", none) })
				}
				refused(t, s, "another name", api.ErrNone, func() (int64, api.Errno) { return 0, s.Release(1, "y", who) })
				refused(t, s, "another kind", api.ErrNone, func() (int64, api.Errno) { return 0, s.Release(3, "x", "") })
				got(t, who, 0, s.Release(1, "x", who), 0, api.OK)
				writes++
				hold = slices.Delete(hold, slices.Index(hold, who), slices.Index(hold, who)+1)
				x, e := s.Get(1, "x")
				want := api.Item{Kind: 1, Name: "x", Version: int64(writes), Holds: hold, Bytes: []byte("b"), Going: going}
				if going && i == 3 {
					if e != api.ErrNone || len(s.List(1)) != 0 {
						t.Error("still there", x, e)
					}
					refused(t, s, "gone", api.ErrNone, func() (int64, api.Errno) { return 0, s.Release(1, "x", who) })
				} else {
					if e != api.OK || !same(x, want) {
						t.Error(x, e, want)
					}
					refused(t, s, "no more", api.ErrArg, func() (int64, api.Errno) { return 0, s.Release(1, "x", who) })
				}
				if y, e := s.Get(2, "x"); e != api.OK || !slices.Equal(y.Holds, whos) || s.Writes() != writes {
					t.Error("another one", y, e, s.Writes())
				}
			}
			if going {
				n, e := s.Create(1, "x", nil)
				got(t, "anew", n, e, int64(writes)+1, api.OK)
				if x, _ := s.Get(1, "x"); x.Going || len(x.Holds) != 0 {
					t.Error(x)
				}
			} else {
				got(t, "held again", 0, s.Hold(1, "x", "a"), 0, api.OK)
			}
		}
	}
}

// The store's words said anew: items in a list as they came, each write counted by a number of its own.

type plain struct {
	items  []api.Item
	writes int
}

func (p *plain) find(kind int, name string) *api.Item {
	for i := range p.items {
		if p.items[i].Kind == kind && p.items[i].Name == name {
			return &p.items[i]
		}
	}
	return nil
}

func (p *plain) wrote(x *api.Item) int64 {
	p.writes++
	x.Version = int64(p.writes)
	return x.Version
}

func (p *plain) gone(x *api.Item) {
	p.items = slices.DeleteFunc(p.items, func(y api.Item) bool { return y.Kind == x.Kind && y.Name == x.Name })
}

// deed is a call: 0 Create, 1 Update, 2 Delete, 3 Hold, 4 Release.
type deed struct {
	call, kind int
	name, who  string
	version    int64
	b          []byte
}

func (p *plain) do(d deed) (int64, api.Errno) {
	x := p.find(d.kind, d.name)
	if d.call == 0 {
		if d.kind < 1 || d.kind > 5 || len(d.name) < 1 || len(d.name) > 50 {
			return 0, api.ErrArg
		}
		if len(d.b) > 4096 {
			return 0, api.ErrLong
		}
		if x != nil {
			return 0, api.ErrTwice
		}
		if len(p.items) == 128 {
			return 0, api.ErrMany
		}
		p.items = append(p.items, api.Item{Kind: d.kind, Name: d.name, Bytes: slices.Clone(d.b)})
		return p.wrote(&p.items[len(p.items)-1]), api.OK
	}
	if x == nil {
		return 0, api.ErrNone
	}
	if d.call <= 2 && x.Version != d.version {
		return 0, api.ErrVersion
	}
	held := slices.Contains(x.Holds, d.who)
	switch d.call {
	case 1:
		if len(d.b) > 4096 {
			return 0, api.ErrLong
		}
		if x.Going {
			return 0, api.ErrHeld
		}
		x.Bytes = slices.Clone(d.b)
		return p.wrote(x), api.OK
	case 2:
		if len(x.Holds) > 0 && x.Going {
			return 0, api.ErrHeld
		}
		p.wrote(x)
		if len(x.Holds) == 0 {
			p.gone(x)
		} else {
			x.Going = true
		}
	case 3:
		if len(d.who) < 1 || len(d.who) > 16 {
			return 0, api.ErrArg
		}
		if x.Going {
			return 0, api.ErrHeld
		}
		if held {
			return 0, api.ErrTwice
		}
		if len(x.Holds) == 4 {
			return 0, api.ErrMany
		}
		p.wrote(x)
		x.Holds = append(x.Holds, d.who)
		slices.Sort(x.Holds)
	case 4:
		if !held {
			return 0, api.ErrArg
		}
		p.wrote(x)
		x.Holds = slices.DeleteFunc(x.Holds, func(w string) bool { return w == d.who })
		if x.Going && len(x.Holds) == 0 {
			p.gone(x)
		}
	}
	return 0, api.OK
}

func do(s *Store, d deed) (int64, api.Errno) {
	switch d.call {
	case 0:
		return s.Create(d.kind, d.name, d.b)
	case 1:
		return s.Update(d.kind, d.name, d.version, d.b)
	case 2:
		return 0, s.Delete(d.kind, d.name, d.version)
	case 3:
		return 0, s.Hold(d.kind, d.name, d.who)
	}
	return 0, s.Release(d.kind, d.name, d.who)
}

func one[T any](r *rand.Rand, l ...T) T { return l[r.Intn(len(l))] }

// anyDeed is of few names, and mostly of the version that there is, so that much is done.
func anyDeed(r *rand.Rand, p *plain, names int) deed {
	d := deed{call: r.Intn(5), kind: 1 + r.Intn(5), name: "n" + strconv.Itoa(r.Intn(names)), b: make([]byte, r.Intn(4))}
	r.Read(d.b)
	d.who = one(r, "a", "b", "c", "d", "e", "b.")
	switch r.Intn(60) {
	case 0:
		d.kind = one(r, 0, 6, -1)
	case 1:
		d.name = one(r, "", strings.Repeat("n", 51))
	case 2:
		d.b = make([]byte, one(r, 4096, 4097))
	case 3:
		d.who = one(r, "", strings.Repeat("w", 17))
	}
	if x := p.find(d.kind, d.name); x != nil {
		d.version = x.Version
	}
	if r.Intn(6) == 0 {
		d.version += one[int64](r, -1, 1, 1<<32)
	}
	return d
}

// hold tells whether a store is as the words said anew.
func hold(t *testing.T, s *Store, p *plain) bool {
	t.Helper()
	l := slices.Clone(p.items)
	slices.SortFunc(l, func(a, b api.Item) int {
		if a.Kind != b.Kind {
			return a.Kind - b.Kind
		}
		return strings.Compare(a.Name, b.Name)
	})
	for _, x := range l {
		if y, e := s.Get(x.Kind, x.Name); e != api.OK || !same(x, y) {
			return false
		}
	}
	return slices.EqualFunc(all(t, s), l, same) && s.Writes() == p.writes
}

// TestAny: P10.1 to P10.3, of many calls in a row, against the words said anew, with few names and with enough for too many items.
func TestAny(t *testing.T) {
	seen := map[[2]int]int{}
	for seed := range int64(60) {
		r := rand.New(rand.NewSource(seed))
		s, p, names := New(), &plain{}, one(r, 1, 3, 40)
		for i := range 1500 {
			d := anyDeed(r, p, names)
			if names == 40 && d.call == 2 && r.Intn(3) > 0 {
				continue
			}
			wantN, wantE := p.do(d)
			n, e := do(s, d)
			got(t, d.name, n, e, wantN, wantE)
			seen[[2]int{d.call, int(e)}]++
			if (i%20 == 0 || i > 1400) && !hold(t, s, p) || t.Failed() {
				t.Fatal(seed, i, d.call, d.kind, d.name, d.who, d.version, all(t, s), p)
			}
		}
	}
	for call, es := range [][]api.Errno{
		{api.OK, api.ErrArg, api.ErrLong, api.ErrTwice, api.ErrMany},
		{api.OK, api.ErrNone, api.ErrVersion, api.ErrLong, api.ErrHeld},
		{api.OK, api.ErrNone, api.ErrVersion, api.ErrHeld},
		{api.OK, api.ErrNone, api.ErrArg, api.ErrHeld, api.ErrTwice, api.ErrMany},
		{api.OK, api.ErrNone, api.ErrArg},
	} {
		for _, e := range es {
			if seen[[2]int{call, int(e)}] == 0 {
				t.Error("never", call, e)
			}
		}
	}
}

// TestVersions: P10.3, versions of one item rise, also when it is gone and made anew; no two writes give one version; an error gives none; what is Going goes just with the last one that holds it.
func TestVersions(t *testing.T) {
	type id struct {
		kind int
		name string
	}
	s, p, r := New(), &plain{}, rand.New(rand.NewSource(7))
	last, writes, went := map[id]int64{}, 0, 0
	for range 20000 {
		d := anyDeed(r, p, 4)
		p.do(d)
		k := id{d.kind, d.name}
		was, before := s.Get(d.kind, d.name)
		told, e := do(s, d)
		x, after := s.Get(d.kind, d.name)
		if e != api.OK {
			if s.Writes() != writes || after != before || !same(x, was) || told != 0 {
				t.Fatal(d, e)
			}
			continue
		}
		writes++
		if s.Writes() != writes || d.call < 2 && told != int64(writes) || d.call >= 2 && told != 0 {
			t.Fatal(d, told, s.Writes(), writes)
		}
		if after == api.OK && (x.Version != int64(writes) || x.Version <= last[k]) {
			t.Fatal(d, x.Version, last[k])
		}
		last[k] = int64(writes)
		if was.Going {
			went++
			// Nothing but a Release is done to what is Going.
			if d.call != 4 || (after == api.OK) != (len(was.Holds) > 1) || after == api.OK && !x.Going {
				t.Fatal(d, was, x, after)
			}
		}
		versions := map[int64]id{}
		for _, y := range all(t, s) {
			if o, twice := versions[y.Version]; twice || y.Version > int64(writes) || y.Version != last[id{y.Kind, y.Name}] {
				t.Fatal(y, o, writes)
			}
			versions[y.Version] = id{y.Kind, y.Name}
		}
	}
	if went < 100 {
		t.Error("few", went)
	}
}

// TestClone: P10.3, R5: a clone has the same, answers the same, and neither sees what is done to the other.
func TestClone(t *testing.T) {
	if c := New().Clone(); len(all(t, c)) != 0 || c.Writes() != 0 || must(t, c, 1, "x", nil) != 1 {
		t.Error("of none")
	}
	for seed := range int64(100) {
		r := rand.New(rand.NewSource(seed))
		s, p := New(), &plain{}
		steps := func(s *Store, p *plain, n int) {
			for range n {
				d := anyDeed(r, p, 2)
				wantN, wantE := p.do(d)
				n, e := do(s, d)
				got(t, d.name, n, e, wantN, wantE)
			}
		}
		steps(s, p, r.Intn(200))
		c, q := s.Clone(), &plain{writes: p.writes}
		for _, x := range p.items {
			x.Holds, x.Bytes = slices.Clone(x.Holds), slices.Clone(x.Bytes)
			q.items = append(q.items, x)
		}
		for range 10 {
			steps(s, p, r.Intn(20))
			if !hold(t, c, q) {
				t.Fatal(seed, "the clone sees it")
			}
			steps(c, q, r.Intn(20))
			if !hold(t, s, p) {
				t.Fatal(seed, "it sees the clone")
			}
		}
		if t.Failed() {
			t.Fatal(seed)
		}
	}
}

// scribble writes over a list and all the room behind it.
func scribble[T any](l []T, x T) {
	l = l[:cap(l)]
	for i := range l {
		l[i] = x
	}
}

// spoil writes over an item that was answered, and the room behind its lists.
func spoil(x api.Item) {
	scribble(x.Bytes, '!')
	scribble(x.Holds, "!")
}

// TestMemory: R4: nothing that is handed in changes or is kept, nor the room behind it; whoever writes over an answer changes neither the store, nor another answer, nor a clone.
func TestMemory(t *testing.T) {
	for _, n := range []int{0, 1, 3, 100, 4096} {
		room := []byte(strings.Repeat("b", n) + "behind")
		b, was := room[:n], string(room)
		s := New()
		must(t, s, 1, "x", b)
		must(t, s, 1, "y", b)
		if v, e := s.Update(1, "y", 2, b); v != 3 || e != api.OK {
			t.Error(v, e)
		}
		for _, who := range []string{"d", "b", "a", "c"} {
			got(t, who, 0, s.Hold(1, "x", who), 0, api.OK)
			got(t, who, 0, s.Hold(1, "y", who), 0, api.OK)
		}
		if string(room) != was {
			t.Error("changed", string(room))
		}
		scribble(room, '?')
		want := func(s *Store, holds ...string) {
			t.Helper()
			for _, name := range []string{"x", "y"} {
				if x, e := s.Get(1, name); e != api.OK || string(x.Bytes) != was[:n] || !slices.Equal(x.Holds, holds) {
					t.Error(n, name, x, e)
				}
			}
			if l := s.List(1); len(l) != 2 || string(l[1].Bytes) != was[:n] || !slices.Equal(l[1].Holds, holds) {
				t.Error(n, l)
			}
		}
		want(s, "a", "b", "c", "d")
		c := s.Clone()
		for range 2 {
			for _, st := range []*Store{s, c} {
				x, _ := st.Get(1, "x")
				y, _ := st.Get(1, "x")
				l, m := st.List(1), st.List(1)
				spoil(x)
				for _, z := range l {
					spoil(z)
				}
				scribble(l, api.Item{Name: "!"})
				if string(y.Bytes) != was[:n] || !slices.Equal(y.Holds, []string{"a", "b", "c", "d"}) || len(m) != 2 || !same(m[0], y) {
					t.Error(n, "two answers", y, m)
				}
				spoil(m[0])
				if string(m[1].Bytes) != was[:n] || !slices.Equal(m[1].Holds, []string{"a", "b", "c", "d"}) || m[1].Name != "y" {
					t.Error(n, "one answer", m[1])
				}
				want(s, "a", "b", "c", "d")
				want(c, "a", "b", "c", "d")
			}
		}
		// A release, and a hold behind it, write over no list that was answered or is a clone's.
		x, _ := s.Get(1, "x")
		for _, name := range []string{"x", "y"} {
			got(t, "Release", 0, s.Release(1, name, "b"), 0, api.OK)
			got(t, "Hold", 0, s.Hold(1, name, "e"), 0, api.OK)
		}
		want(s, "a", "c", "d", "e")
		want(c, "a", "b", "c", "d")
		if !slices.Equal(x.Holds, []string{"a", "b", "c", "d"}) {
			t.Error(n, x)
		}
	}
}
