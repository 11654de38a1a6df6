package object

import (
	"errors"
	"math"
	"math/rand"
	"reflect"
	"slices"
	"strconv"
	"strings"
	"testing"

	"sutler/api"
)

func at(ty, zone, kind string) api.Offer { return api.Offer{Type: ty, Zone: zone, Kind: kind} }

// many are n offers that may stand together.
func many(n int) []api.Offer {
	var l []api.Offer
	for i := range n {
		l = append(l, at("t"+strconv.Itoa(i/12), "z"+strconv.Itoa(i%12/4), "k"+strconv.Itoa(i%4)))
	}
	return l
}

func goodNames() []string {
	return []string{"q", "z", "app.a", "q-.9", "q.", "q-", "z0", "zone", "command", strings.Repeat("y", 16)}
}

func badNames() []string {
	return []string{"A", "qU", "5", "-a", ".a", "a_b", "a b", "a\x00", "ä", "a/", "a/b", "a\n", " a", strings.Repeat("y", 17), strings.Repeat("y", 1000)}
}

// pod is one at all limits.
func pod() api.Pod {
	p := api.Pod{Name: strings.Repeat("x", 16), App: "web", Need: api.Amounts{api.MaxAmount, api.MaxAmount}, Prio: 1000, Since: api.MaxTime, On: "c0001"}
	for i := range api.MaxReqs {
		p.Reqs = append(p.Reqs, api.Req{Key: "k" + strconv.Itoa(i), Op: api.In, Vals: []string{"a", "5"}})
	}
	p.Tols = []api.Tol{{Key: "gpu", Val: "yes"}, {Key: "gpu", Val: "no"}, {Key: "gpu", Any: true}, {Key: "old", Any: true}}
	p.Spread = []api.Spread{{Key: "zone", App: "web", Skew: 1}, {Key: "host", App: "db", Skew: 16}, {Key: "zone", App: "web", Skew: 1}}
	p.Near = []api.Term{{Key: "zone", App: "db"}, {Key: "host", App: "web"}, {Key: "zone", App: "db"}}
	p.Apart = []api.Term{{Key: "host", App: "web"}, {Key: "zone", App: "db"}, {Key: "host", App: "web"}}
	return p
}

// pool is one at all limits.
func pool() api.Pool {
	p := api.Pool{Name: "p", Weight: 100, Limit: api.Amounts{api.MaxAmount, api.MaxAmount}, Gen: api.MaxTime, Expire: api.MaxSpan, Budget: 16, Merge: api.MergeAll}
	p.Reqs = pod().Reqs
	p.Taints = []api.Label{{Key: "a", Val: "1"}, {Key: "b", Val: "-5"}, {Key: "c", Val: "1"}, {Key: "d", Val: "x"}}
	return p
}

// claim is one at all limits.
func claim() api.Claim {
	return api.Claim{Name: "c0001", Pool: "p", Gen: api.MaxTime, Offer: at("s", "a", "spot"), Price: api.MaxAmount, Cap: api.Amounts{api.MaxAmount, api.MaxAmount},
		Opts: many(72), Try: 32, Id: strings.Repeat("I", 16), Phase: api.Leaving, Born: api.MaxTime, Marked: true}
}

// command is one at all limits.
func command() api.Command {
	return api.Command{Cause: api.Cheaper, Nodes: []string{"c1", "c2", "c3", "c4"}, Step: api.Draining, Until: api.MaxTime, Fresh: "c5", Pool: "p", Opts: many(72), Made: true}
}

func cooling() api.Cooling { return api.Cooling{Offer: at("s", "a", "spot"), Until: api.MaxTime} }

// fault is a way to make what may be into what may not be, and the error of that.
type fault[T any] struct {
	turn func(*T)
	e    api.Errno
}

// asked hands an object in to its own call, to Check and to Name, and tells the error: it has to be one and the same.
func asked[T any](t *testing.T, x T, direct func(T) api.Errno, name string) api.Errno {
	t.Helper()
	e := direct(x)
	if again := Check(x); again != e {
		t.Errorf("Check: %d, not %d: %v", again, e, x)
	}
	if e != api.OK {
		name = ""
	}
	if s, again := Name(x); again != e || s != name {
		t.Errorf("Name: %q, %d, not %q, %d: %v", s, again, name, e, x)
	}
	return e
}

// ways says of a kind of objects how one is made, asked and called, and what may be wrong with it, in the order in which that is told.
type ways[T any] struct {
	made   func() T
	ask    func(T) api.Errno
	name   func(T) string
	fine   []func(*T)
	faults [][]fault[T]
}

// each: what is fine alone, and each fault alone, told by all calls.
func (w ways[T]) each(t *testing.T) {
	t.Helper()
	for i, turn := range w.fine {
		x := w.made()
		turn(&x)
		if e := asked(t, x, w.ask, w.name(x)); e != api.OK {
			t.Error("fine", i, e)
		}
	}
	for i, l := range w.faults {
		for j, f := range l {
			x := w.made()
			f.turn(&x)
			if e := asked(t, x, w.ask, ""); e != f.e {
				t.Error(i, j, "alone", e, "not", f.e)
			}
		}
	}
}

// several: of two faults, and of many, the one that stands first tells. The first one is laid last, so that none of the others hides it.
func (w ways[T]) several(t *testing.T) {
	t.Helper()
	for i, l := range w.faults {
		for j, behind := range w.faults[i+1:] {
			for _, f := range l {
				for _, g := range behind {
					x := w.made()
					g.turn(&x)
					f.turn(&x)
					if e := w.ask(x); e != f.e {
						t.Fatal(i, "ahead of", i+1+j, e, "not", f.e)
					}
				}
			}
		}
	}
	r := rand.New(rand.NewSource(1))
	for range 5000 {
		x, want := w.made(), api.OK
		for i := len(w.faults) - 1; i >= 0; i-- {
			if l := w.faults[i]; r.Intn(8) == 0 {
				f := l[r.Intn(len(l))]
				f.turn(&x)
				want = f.e
			}
		}
		if e := w.ask(x); e != want {
			t.Fatal(e, "not", want, x)
		}
	}
}

// named are the faults of a field that has to be a name; nameless too, if it may not be empty.
func named[T any](field func(*T) *string, nameless bool) []fault[T] {
	var l []fault[T]
	bad := badNames()
	if nameless {
		bad = append(bad, "")
	}
	for _, s := range bad {
		l = append(l, fault[T]{func(x *T) { *field(x) = s }, api.ErrName})
	}
	return l
}

func fineNames[T any](field func(*T) *string) []func(*T) {
	var l []func(*T)
	for _, s := range goodNames() {
		l = append(l, func(x *T) { *field(x) = s })
	}
	return l
}

// amounts are the faults of one that has to be an amount.
func amounts[T any](field func(*T) *int64) []fault[T] {
	var l []fault[T]
	for _, n := range []int64{-1, math.MinInt64} {
		l = append(l, fault[T]{func(x *T) { *field(x) = n }, api.ErrBelow})
	}
	for _, n := range []int64{api.MaxAmount + 1, math.MaxInt64} {
		l = append(l, fault[T]{func(x *T) { *field(x) = n }, api.ErrOver})
	}
	return l
}

// outside are the faults of a number that has to be from least to most; inside is what is fine.
func outside[T any, N int | int64](field func(*T) *N, least, most N) []fault[T] {
	var l []fault[T]
	for _, n := range []int64{int64(least) - 1, int64(most) + 1, math.MinInt64, math.MaxInt64} {
		l = append(l, fault[T]{func(x *T) { *field(x) = N(n) }, api.ErrArg})
	}
	return l
}

func inside[T any, N int | int64](field func(*T) *N, least, most N) []func(*T) {
	var l []func(*T)
	for _, n := range []N{least, least + 1, most - 1, most} {
		l = append(l, func(x *T) { *field(x) = n })
	}
	return l
}

// wrongReqs are faults of requirements that may not be, in their order.
func wrongReqs[T any](field func(*T) *[]api.Req) [][]fault[T] {
	out := [][]fault[T]{{{func(x *T) { *field(x) = append(*field(x), api.Req{Key: "k", Op: api.Exists}) }, api.ErrMany}}}
	for i := range api.MaxReqs {
		out = append(out,
			[]fault[T]{{func(x *T) { (*field(x))[i].Key = "K" }, api.ErrName}},
			[]fault[T]{{func(x *T) { (*field(x))[i].N = 1 }, api.ErrOp}},
			[]fault[T]{{func(x *T) { (*field(x))[i].Vals = []string{"a", "B"} }, api.ErrForm}},
			[]fault[T]{{func(x *T) { (*field(x))[i].Vals = []string{"a", "a"} }, api.ErrTwice}},
		)
	}
	return out
}

// wrongOffers are faults of a list of offers that may not be, in their order.
func wrongOffers[T any](field func(*T) *[]api.Offer) [][]fault[T] {
	out := [][]fault[T]{{
		{func(x *T) { *field(x) = append(*field(x), at("z", "z", "z")) }, api.ErrMany},
		{func(x *T) { *field(x) = many(500) }, api.ErrMany},
		{func(x *T) { *field(x) = make([]api.Offer, 73) }, api.ErrMany},
		{func(x *T) { *field(x) = slices.Repeat(many(1), 73) }, api.ErrMany},
	}}
	for _, i := range []int{0, 1, 40, 71} {
		l := named(func(x *T) *string { return &(*field(x))[i].Type }, true)
		l = append(l, named(func(x *T) *string { return &(*field(x))[i].Zone }, true)...)
		l = append(l, named(func(x *T) *string { return &(*field(x))[i].Kind }, true)...)
		out = append(out, l)
		if i > 0 {
			out = append(out, []fault[T]{
				{func(x *T) { (*field(x))[i] = (*field(x))[0] }, api.ErrTwice},
				{func(x *T) { (*field(x))[i] = (*field(x))[i-1] }, api.ErrTwice},
			})
		}
	}
	return out
}

// fineOffers are lists of offers that may be: they need neither rise nor be there at all.
func fineOffers[T any](field func(*T) *[]api.Offer) []func(*T) {
	var out []func(*T)
	down := many(72)
	slices.Reverse(down)
	for _, l := range [][]api.Offer{nil, {}, many(1), many(71), down, {at("a", "b", "c"), at("a", "c", "b"), at("c", "b", "a"), at("a", "b", "b"), at("a", "a", "b"), at("ab", "c", "c"), at("a", "bc", "c")}} {
		out = append(out, func(x *T) { *field(x) = l })
	}
	return out
}

func podWays() ways[api.Pod] {
	type p = api.Pod
	w := ways[p]{made: pod, ask: Pod, name: func(x p) string { return x.Name }}
	name, app, on := func(x *p) *string { return &x.Name }, func(x *p) *string { return &x.App }, func(x *p) *string { return &x.On }
	w.faults = [][]fault[p]{
		slices.Concat(named(name, true), named(app, true)),
		amounts(func(x *p) *int64 { return &x.Need[0] }),
		amounts(func(x *p) *int64 { return &x.Need[1] }),
		outside(func(x *p) *int { return &x.Prio }, -1000, 1000),
	}
	w.faults = append(w.faults, wrongReqs(func(x *p) *[]api.Req { return &x.Reqs })...)
	w.faults = append(w.faults, []fault[p]{{func(x *p) { x.Tols = append(x.Tols, api.Tol{Key: "a", Any: true}) }, api.ErrMany}})
	for i := range api.MaxTols {
		w.faults = append(w.faults,
			[]fault[p]{{func(x *p) { x.Tols[i].Key = "" }, api.ErrName}},
			[]fault[p]{{func(x *p) { x.Tols[i].Val, x.Tols[i].Any = "a", true }, api.ErrForm}},
		)
	}
	w.faults = append(w.faults, []fault[p]{{func(x *p) { x.Tols[3] = x.Tols[0] }, api.ErrTwice}})
	w.faults = append(w.faults, []fault[p]{
		{func(x *p) { x.Spread = append(x.Spread, x.Spread[0]) }, api.ErrMany},
		{func(x *p) { x.Near = append(x.Near, x.Near[0]) }, api.ErrMany},
		{func(x *p) { x.Apart = append(x.Apart, x.Apart[0]) }, api.ErrMany},
		{func(x *p) { x.Spread = make([]api.Spread, 100) }, api.ErrMany},
		{func(x *p) { x.Near = make([]api.Term, 100) }, api.ErrMany},
		{func(x *p) { x.Apart = make([]api.Term, 100) }, api.ErrMany},
	})
	for i := range api.MaxTerms {
		w.faults = append(w.faults,
			noKey(func(x *p) *string { return &x.Spread[i].Key }),
			named(func(x *p) *string { return &x.Spread[i].App }, true),
			outside(func(x *p) *int { return &x.Spread[i].Skew }, 1, 16),
		)
	}
	for _, terms := range []func(*p) []api.Term{func(x *p) []api.Term { return x.Near }, func(x *p) []api.Term { return x.Apart }} {
		for i := range api.MaxTerms {
			w.faults = append(w.faults,
				noKey(func(x *p) *string { return &terms(x)[i].Key }),
				named(func(x *p) *string { return &terms(x)[i].App }, true),
			)
		}
	}
	w.faults = append(w.faults, outside(func(x *p) *int64 { return &x.Since }, 0, api.MaxTime), named(on, false))
	w.fine = slices.Concat(finePods(), fineNames(name), fineNames(app), fineNames(on),
		inside(func(x *p) *int64 { return &x.Need[0] }, 0, api.MaxAmount), inside(func(x *p) *int64 { return &x.Need[1] }, 0, api.MaxAmount),
		inside(func(x *p) *int { return &x.Prio }, -1000, 1000), inside(func(x *p) *int { return &x.Spread[2].Skew }, 1, 16),
		inside(func(x *p) *int64 { return &x.Since }, 0, api.MaxTime))
	return w
}

// noKey are faults of a term's key.
func noKey(field func(*api.Pod) *string) []fault[api.Pod] {
	var l []fault[api.Pod]
	for _, s := range []string{"", "rack", "type", "kind", "pool", "Zone", "zones", "zon", "host ", "a", "HOST", "zonehost", strings.Repeat("z", 17)} {
		l = append(l, fault[api.Pod]{func(x *api.Pod) { *field(x) = s }, api.ErrArg})
	}
	return l
}

// finePods are pods that may be with less than all, or with what looks odd.
func finePods() []func(*api.Pod) {
	type p = api.Pod
	return []func(*p){
		func(x *p) {},
		func(x *p) { *x = p{Name: "x", App: "x"} },
		func(x *p) { x.Reqs, x.Tols, x.Spread, x.Near, x.Apart = nil, nil, nil, nil, nil },
		func(x *p) {
			x.Reqs, x.Tols, x.Spread, x.Near, x.Apart = []api.Req{}, []api.Tol{}, []api.Spread{}, []api.Term{}, []api.Term{}
		},
		func(x *p) { x.On = "" },
		func(x *p) { x.On = x.Name },
		func(x *p) { x.App = x.Name },
		// Its requirements need not meet: whether any labels could is another question.
		func(x *p) {
			x.Reqs = []api.Req{{Key: "zone", Op: api.Missing}, {Key: "zone", Op: api.Exists}, {Key: "zone", Op: api.Exists}}
		},
		// Near and apart from one app, in one domain.
		func(x *p) {
			x.Near, x.Apart = []api.Term{{Key: "zone", App: "web"}}, []api.Term{{Key: "zone", App: "web"}}
		},
	}
}

// TestPod: P8.1.
func TestPod(t *testing.T) {
	w := podWays()
	w.each(t)
	w.several(t)
}

// TestPool: P8.2.
func TestPool(t *testing.T) {
	type p = api.Pool
	w := ways[p]{made: pool, ask: Pool, name: func(x p) string { return x.Name }}
	name := func(x *p) *string { return &x.Name }
	w.faults = [][]fault[p]{
		named(name, true),
		outside(func(x *p) *int { return &x.Weight }, 0, 100),
		amounts(func(x *p) *int64 { return &x.Limit[0] }),
		amounts(func(x *p) *int64 { return &x.Limit[1] }),
	}
	w.faults = append(w.faults, wrongReqs(func(x *p) *[]api.Req { return &x.Reqs })...)
	w.faults = append(w.faults, []fault[p]{{func(x *p) { x.Taints = append(x.Taints, api.Label{Key: "e", Val: "1"}) }, api.ErrMany}})
	for i := range api.MaxTaints {
		w.faults = append(w.faults,
			[]fault[p]{{func(x *p) { x.Taints[i].Key = "" }, api.ErrName}},
			[]fault[p]{{func(x *p) { x.Taints[i].Val = "" }, api.ErrForm}},
		)
	}
	w.faults = append(w.faults,
		[]fault[p]{{func(x *p) { x.Taints[3].Key = x.Taints[0].Key }, api.ErrTwice}},
		slices.Concat(outside(func(x *p) *int64 { return &x.Gen }, 0, api.MaxTime), outside(func(x *p) *int64 { return &x.Expire }, 0, api.MaxSpan),
			outside(func(x *p) *int { return &x.Budget }, 0, 16), outside(func(x *p) *int { return &x.Merge }, 0, 2)),
	)
	w.fine = slices.Concat(fineNames(name), []func(*p){
		func(x *p) {},
		func(x *p) { *x = p{Name: "p"} },
		func(x *p) { x.Reqs, x.Taints = []api.Req{}, []api.Label{} },
	}, inside(func(x *p) *int { return &x.Weight }, 0, 100), inside(func(x *p) *int64 { return &x.Limit[0] }, 0, api.MaxAmount),
		inside(func(x *p) *int64 { return &x.Limit[1] }, 0, api.MaxAmount), inside(func(x *p) *int64 { return &x.Gen }, 0, api.MaxTime),
		inside(func(x *p) *int64 { return &x.Expire }, 0, api.MaxSpan), inside(func(x *p) *int { return &x.Budget }, 0, 16), inside(func(x *p) *int { return &x.Merge }, 0, 2))
	w.each(t)
	w.several(t)
}

// TestClaim: P8.3.
func TestClaim(t *testing.T) {
	type c = api.Claim
	w := ways[c]{made: claim, ask: Claim, name: func(x c) string { return x.Name }}
	var first []fault[c]
	for _, field := range []func(*c) *string{
		func(x *c) *string { return &x.Name }, func(x *c) *string { return &x.Pool },
		func(x *c) *string { return &x.Offer.Type }, func(x *c) *string { return &x.Offer.Zone }, func(x *c) *string { return &x.Offer.Kind },
	} {
		first = append(first, named(field, true)...)
		w.fine = append(w.fine, fineNames(field)...)
	}
	opts := func(x *c) *[]api.Offer { return &x.Opts }
	w.faults = [][]fault[c]{first,
		amounts(func(x *c) *int64 { return &x.Price }), amounts(func(x *c) *int64 { return &x.Cap[0] }), amounts(func(x *c) *int64 { return &x.Cap[1] })}
	w.faults = append(w.faults, wrongOffers(opts)...)
	w.faults = append(w.faults,
		outside(func(x *c) *int { return &x.Try }, 1, 32),
		[]fault[c]{{func(x *c) { x.Id = strings.Repeat("i", 17) }, api.ErrLong}, {func(x *c) { x.Id = strings.Repeat("ä", 9) }, api.ErrLong}, {func(x *c) { x.Id = strings.Repeat("i", 100000) }, api.ErrLong}},
		slices.Concat(outside(func(x *c) *int { return &x.Phase }, 1, 4), outside(func(x *c) *int64 { return &x.Gen }, 0, api.MaxTime), outside(func(x *c) *int64 { return &x.Born }, 0, api.MaxTime)),
	)
	for phase := api.Planned; phase <= api.Leaving; phase++ {
		w.fine = append(w.fine, func(x *c) { x.Phase, x.Id = phase, "" }, func(x *c) { x.Phase, x.Marked = phase, false })
	}
	// An Id is the cloud's: whatever its bytes are.
	for _, id := range []string{"I 1", "i-\x00\xff", strings.Repeat("ä", 8), "/", strings.Repeat("i", 15)} {
		w.fine = append(w.fine, func(x *c) { x.Id = id })
	}
	w.fine = slices.Concat(w.fine, fineOffers(opts), []func(*c){
		func(x *c) {},
		func(x *c) { *x = c{Name: "c", Pool: "p", Offer: at("s", "a", "od"), Try: 1, Phase: api.Planned} },
		func(x *c) { x.Opts = []api.Offer{x.Offer} },
	}, inside(func(x *c) *int64 { return &x.Price }, 0, api.MaxAmount), inside(func(x *c) *int64 { return &x.Cap[0] }, 0, api.MaxAmount),
		inside(func(x *c) *int64 { return &x.Cap[1] }, 0, api.MaxAmount), inside(func(x *c) *int { return &x.Try }, 1, 32), inside(func(x *c) *int { return &x.Phase }, 1, 4),
		inside(func(x *c) *int64 { return &x.Gen }, 0, api.MaxTime), inside(func(x *c) *int64 { return &x.Born }, 0, api.MaxTime))
	w.each(t)
	w.several(t)
}

// TestCommand: P8.4.
func TestCommand(t *testing.T) {
	type c = api.Command
	w := ways[c]{made: command, ask: Command, name: func(c) string { return "command" }}
	fresh, in := func(x *c) *string { return &x.Fresh }, func(x *c) *string { return &x.Pool }
	opts := func(x *c) *[]api.Offer { return &x.Opts }
	w.faults = [][]fault[c]{
		slices.Concat(outside(func(x *c) *int { return &x.Cause }, 1, 4), outside(func(x *c) *int { return &x.Step }, 1, 3)),
		{
			{func(x *c) { x.Nodes = []string{"c1", "c2", "c3", "c4", "c5"} }, api.ErrMany},
			{func(x *c) { x.Nodes = make([]string, 5) }, api.ErrMany},
			{func(x *c) { x.Nodes = slices.Repeat([]string{"c1"}, 100) }, api.ErrMany},
		},
		{{func(x *c) { x.Nodes = nil }, api.ErrArg}, {func(x *c) { x.Nodes = []string{} }, api.ErrArg}},
	}
	for i := range 4 {
		w.faults = append(w.faults, named(func(x *c) *string { return &x.Nodes[i] }, true))
		if i > 0 {
			w.faults = append(w.faults, []fault[c]{
				{func(x *c) { x.Nodes[i] = x.Nodes[i-1] }, api.ErrTwice},
				{func(x *c) { x.Nodes[i-1], x.Nodes[i] = x.Nodes[i-1]+"0", x.Nodes[i-1] }, api.ErrTwice},
				{func(x *c) { x.Nodes[i] = "a" }, api.ErrTwice},
			})
		}
	}
	w.faults = append(w.faults, outside(func(x *c) *int64 { return &x.Until }, 0, api.MaxTime), slices.Concat(named(fresh, false), named(in, false)))
	w.faults = append(w.faults, wrongOffers(opts)...)
	w.fine = slices.Concat(fineNames(fresh), fineNames(in), fineNames(func(x *c) *string { x.Nodes = []string{""}; return &x.Nodes[0] }), fineOffers(opts), []func(*c){
		func(x *c) {},
		func(x *c) { *x = c{Cause: api.Expired, Step: api.Held, Nodes: []string{"c"}} },
		func(x *c) { x.Fresh = "" },
		func(x *c) { x.Pool = "" },
		func(x *c) { x.Fresh, x.Pool, x.Opts, x.Made = "", "", nil, true },
		func(x *c) { x.Made = false },
		// A fresh one may even be one of the nodes: that is none of this layer's questions.
		func(x *c) { x.Fresh = "c1" },
		// Byte by byte, digits not as numbers; a text stands behind one that it begins with.
		func(x *c) { x.Nodes = []string{"c10", "c9"} },
		func(x *c) { x.Nodes = []string{"c", "c-", "c.", "c0"} },
		func(x *c) { x.Nodes = []string{"c0", "ca", "d"} },
	}, inside(func(x *c) *int { return &x.Cause }, 1, 4), inside(func(x *c) *int { return &x.Step }, 1, 3), inside(func(x *c) *int64 { return &x.Until }, 0, api.MaxTime))
	w.each(t)
	w.several(t)
}

// TestNodes: P8.4, of one that is no name, and not above the one ahead either, that it is no name; the first wrong one tells.
func TestNodes(t *testing.T) {
	for i, x := range []struct {
		l []string
		e api.Errno
	}{
		{[]string{"c1", "C"}, api.ErrName}, {[]string{"C", "C"}, api.ErrName}, {[]string{"c1", ""}, api.ErrName}, {[]string{""}, api.ErrName},
		{[]string{"c2", "c1", "C"}, api.ErrTwice}, {[]string{"c2", "C", "c1"}, api.ErrName}, {[]string{"c1", "c3", "c2", "c4"}, api.ErrTwice},
		{[]string{"c9", "c10"}, api.ErrTwice}, {[]string{"ca", "c"}, api.ErrTwice}, {[]string{"c1", "c2", "c1"}, api.ErrTwice}, {[]string{"c1", "c1"}, api.ErrTwice},
		{[]string{"c1", "c2", "c3", "c3"}, api.ErrTwice}, {[]string{"c1", "c1", "c1", "c1", "c1"}, api.ErrMany}, {[]string{"C", "c1", "c2", "c3", "c4"}, api.ErrMany},
	} {
		c := command()
		c.Nodes = x.l
		if e := asked(t, c, Command, ""); e != x.e {
			t.Error(i, e)
		}
	}
}

// TestOffers: an offer that is no name's and stands there twice; the first wrong one tells.
func TestOffers(t *testing.T) {
	a, b, bad := at("s", "a", "od"), at("s", "a", "spot"), at("S", "a", "od")
	for i, x := range []struct {
		l []api.Offer
		e api.Errno
	}{
		{[]api.Offer{bad, bad}, api.ErrName}, {[]api.Offer{a, a, bad}, api.ErrTwice}, {[]api.Offer{a, bad, a}, api.ErrName}, {[]api.Offer{a, b, a, bad}, api.ErrTwice},
		{[]api.Offer{a, b, b}, api.ErrTwice}, {[]api.Offer{{}}, api.ErrName}, {slices.Repeat([]api.Offer{bad}, 72), api.ErrName}, {slices.Repeat([]api.Offer{bad}, 73), api.ErrMany},
	} {
		c, d := claim(), command()
		c.Opts, d.Opts = x.l, x.l
		if e := asked(t, c, Claim, ""); e != x.e {
			t.Error(i, e)
		}
		if e := asked(t, d, Command, ""); e != x.e {
			t.Error(i, e)
		}
	}
	for i := range 72 {
		for j := range i {
			c := claim()
			c.Opts[i] = c.Opts[j]
			if e := Claim(c); e != api.ErrTwice {
				t.Fatal(i, j, e)
			}
		}
	}
}

// TestCooling: P8.5, of a cooling alone.
func TestCooling(t *testing.T) {
	type c = api.Cooling
	ask := func(x c) api.Errno { return Check(x) }
	w := ways[c]{made: cooling, ask: ask, name: func(x c) string { return strings.Join([]string{x.Offer.Type, x.Offer.Zone, x.Offer.Kind}, "/") }}
	var first []fault[c]
	for _, field := range []func(*c) *string{func(x *c) *string { return &x.Offer.Type }, func(x *c) *string { return &x.Offer.Zone }, func(x *c) *string { return &x.Offer.Kind }} {
		first = append(first, named(field, true)...)
		w.fine = append(w.fine, fineNames(field)...)
	}
	until := func(x *c) *int64 { return &x.Until }
	w.faults = [][]fault[c]{first, outside(until, 0, api.MaxTime)}
	w.fine = append(w.fine, inside(until, 0, api.MaxTime)...)
	w.each(t)
	w.several(t)
	// Two unlike offers have unlike names, whatever stands in them: no name has a `/`.
	for i, x := range []api.Offer{at("a", "b", "c"), at("a.b", "c", "d"), at("a", "b.c", "d")} {
		if s, e := Name(c{Offer: x}); e != api.OK || s != []string{"a/b/c", "a.b/c/d", "a/b.c/d"}[i] {
			t.Error(i, s, e)
		}
	}
}

// likePod has all that a pod has, but is none.
type likePod api.Pod

type withPod struct{ api.Pod }

// TestElse: P8.5, of anything else.
func TestElse(t *testing.T) {
	p, q, c, d, o := pod(), pool(), claim(), command(), cooling()
	for i, x := range []any{
		nil, 0, 5, "x", "command", true, 1.5, 'x', []byte("x"), struct{}{}, []any{p}, []api.Pod{p}, []api.Cooling{o}, [1]api.Pod{p}, map[string]api.Pod{"x": p},
		&p, &q, &c, &d, &o, (*api.Pod)(nil), (*api.Cooling)(nil), likePod(p), withPod{p}, &withPod{p}, func() api.Pod { return p }, make(chan api.Pod), errors.New("x"),
		o.Offer, api.Offering{}, api.Type{Name: "s"}, api.Item{Kind: api.PodObject, Name: "x"}, api.Node{Claim: c}, api.Snap{Pods: []api.Pod{p}}, api.Inst{}, api.Conf{}, api.Deed{}, api.Put{}, api.Fresh{}, api.Placing{},
		api.Req{}, api.Set{}, api.Label{}, api.Tol{}, api.Spread{}, api.Term{}, api.Amounts{}, api.OK, api.ErrName, any(nil), error(nil),
	} {
		if e := Check(x); e != api.ErrArg {
			t.Error(i, e)
		}
		if s, e := Name(x); s != "" || e != api.ErrArg {
			t.Error(i, s, e)
		}
	}
	// Of nothing but zeros each kind has an error of its own promise.
	for i, x := range []any{api.Pod{}, api.Pool{}, api.Claim{}, api.Command{}, api.Cooling{}} {
		want := []api.Errno{api.ErrName, api.ErrName, api.ErrName, api.ErrArg, api.ErrName}[i]
		if s, e := Name(x); Check(x) != want || s != "" || e != want {
			t.Error(i, s, e)
		}
	}
}

// TestExamples: the table of the chapter.
func TestExamples(t *testing.T) {
	o := at("s", "a", "spot")
	x := func(turn func(p *api.Pod)) api.Pod {
		p := api.Pod{Name: "x", App: "web", Need: api.Amounts{500, 1 << 30}}
		turn(&p)
		return p
	}
	c := func(turn func(c *api.Claim)) api.Claim {
		c := api.Claim{Name: "c1", Pool: "p", Offer: o, Try: 1, Phase: api.Planned}
		turn(&c)
		return c
	}
	for i, l := range []struct {
		x    any
		e    api.Errno
		name string
	}{
		{x(func(p *api.Pod) {}), api.OK, "x"},
		{x(func(p *api.Pod) { p.Name = "X" }), api.ErrName, ""},
		{x(func(p *api.Pod) { p.Need[0] = -1 }), api.ErrBelow, ""},
		{x(func(p *api.Pod) { p.Prio = 1001 }), api.ErrArg, ""},
		{x(func(p *api.Pod) { p.Spread = []api.Spread{{Key: "zone", App: "web"}} }), api.ErrArg, ""},
		{x(func(p *api.Pod) { p.Spread = []api.Spread{{Key: "rack", App: "web", Skew: 1}} }), api.ErrArg, ""},
		{api.Pool{Name: "p", Weight: 101}, api.ErrArg, ""},
		{api.Pool{Name: "p", Merge: 3}, api.ErrArg, ""},
		{c(func(c *api.Claim) {}), api.OK, "c1"},
		{c(func(c *api.Claim) { c.Try = 0 }), api.ErrArg, ""},
		{c(func(c *api.Claim) { c.Id = strings.Repeat("i", 17) }), api.ErrLong, ""},
		{c(func(c *api.Claim) { c.Opts = []api.Offer{o, o} }), api.ErrTwice, ""},
		{api.Command{Cause: api.Empty, Step: api.Held, Nodes: []string{"c2", "c1"}}, api.ErrTwice, ""},
		{api.Command{Cause: api.Empty, Step: api.Held}, api.ErrArg, ""},
		{api.Command{Cause: api.Empty, Step: api.Held, Nodes: []string{"c1"}}, api.OK, "command"},
		{api.Cooling{Offer: o}, api.OK, "s/a/spot"},
		{5, api.ErrArg, ""}, {nil, api.ErrArg, ""},
	} {
		if s, e := Name(l.x); Check(l.x) != l.e || e != l.e || s != l.name {
			t.Error(i, s, e, Check(l.x))
		}
	}
}

// without is a list without the one at i.
func without[T any](l []T, i int) []T { return slices.Delete(slices.Clone(l), i, i+1) }

// TestFollows: P8.6, of pods that may be.
func TestFollows(t *testing.T) {
	r := rand.New(rand.NewSource(2))
	seen := map[string]int{}
	for range 2000 {
		p := anyPod(r)
		if e := Pod(p); e != api.OK {
			t.Fatal(p, e)
		}
		fewer := func(what string, n int, less func(p *api.Pod, i int)) {
			for i := range n {
				q := p
				less(&q, i)
				if e := Pod(q); e != api.OK {
					t.Fatal(what, i, p, e)
				}
				seen[what]++
			}
		}
		fewer("requirement", len(p.Reqs), func(q *api.Pod, i int) { q.Reqs = without(p.Reqs, i) })
		fewer("toleration", len(p.Tols), func(q *api.Pod, i int) { q.Tols = without(p.Tols, i) })
		fewer("spread", len(p.Spread), func(q *api.Pod, i int) { q.Spread = without(p.Spread, i) })
		fewer("near", len(p.Near), func(q *api.Pod, i int) { q.Near = without(p.Near, i) })
		fewer("apart", len(p.Apart), func(q *api.Pod, i int) { q.Apart = without(p.Apart, i) })
	}
	for what, n := range seen {
		if n < 1000 {
			t.Error("few", what, n)
		}
	}
}

func one(r *rand.Rand, l ...string) string { return l[r.Intn(len(l))] }

// anyPod is a pod that may be.
func anyPod(r *rand.Rand) api.Pod {
	p := api.Pod{Name: one(r, goodNames()...), App: one(r, goodNames()...), Prio: r.Intn(2001) - 1000, Since: r.Int63n(api.MaxTime + 1), On: one(r, "", "c1")}
	p.Need = api.Amounts{r.Int63n(api.MaxAmount + 1), r.Int63n(api.MaxAmount + 1)}
	for range r.Intn(api.MaxReqs + 1) {
		q := api.Req{Key: one(r, "zone", "kind", "gen"), Op: 1 + r.Intn(6)}
		if q.Op == api.In || q.Op == api.NotIn {
			q.Vals = []string{"a", "5", "b"}[:1+r.Intn(3)]
		} else if q.Op > api.Missing {
			q.N = r.Int63n(9) - 4
		}
		p.Reqs = append(p.Reqs, q)
	}
	for i := range r.Intn(api.MaxTols + 1) {
		p.Tols = append(p.Tols, []api.Tol{{Key: "a", Any: true}, {Key: "a", Val: "1"}, {Key: "b", Val: "1"}, {Key: "b", Val: "-1"}}[i])
	}
	term := func() api.Term { return api.Term{Key: one(r, "zone", "host"), App: one(r, "web", "db", p.App)} }
	for range r.Intn(api.MaxTerms + 1) {
		s := term()
		p.Spread = append(p.Spread, api.Spread{Key: s.Key, App: s.App, Skew: 1 + r.Intn(16)})
	}
	for range r.Intn(api.MaxTerms + 1) {
		p.Near = append(p.Near, term())
	}
	for range r.Intn(api.MaxTerms + 1) {
		p.Apart = append(p.Apart, term())
	}
	return p
}

// TestLong: R1: lists and texts far beyond the limits are refused in a moment.
func TestLong(t *testing.T) {
	const far = 1 << 20
	long := strings.Repeat("a", far)
	p, c, d := pod(), claim(), command()
	p.Near, c.Opts, d.Nodes = make([]api.Term, far), make([]api.Offer, far), make([]string, far)
	for i, x := range []any{p, c, d} {
		if e := Check(x); e != api.ErrMany {
			t.Error(i, e)
		}
	}
	if s, e := Name(api.Cooling{Offer: at(long, long, long)}); s != "" || e != api.ErrName {
		t.Error(len(s), e)
	}
	if s, e := Name(api.Pod{Name: long, App: "a"}); s != "" || e != api.ErrName {
		t.Error(len(s), e)
	}
}

// spare is a list with room behind it that is filled with what may not be, and must stay.
func spare[T any](l []T, behind T) []T {
	return append(slices.Clone(l), slices.Repeat([]T{behind}, 9)...)[:len(l)]
}

// whole is a list with the room behind it.
func whole[T any](l []T) []T { return slices.Clone(l[:cap(l)]) }

// TestMemory: R4 and R5: nothing that is handed in changes, nor the room behind it, nor is that room read; asked again, the same is told.
func TestMemory(t *testing.T) {
	p, q, c, d := pod(), pool(), claim(), command()
	p.Reqs, p.Tols, p.Spread = spare(p.Reqs, api.Req{Key: "B"}), spare(p.Tols, api.Tol{Key: "B"}), spare(p.Spread, api.Spread{})
	p.Near, p.Apart = spare(p.Near, api.Term{}), spare(p.Apart, api.Term{})
	q.Reqs, q.Taints = spare(q.Reqs, api.Req{Key: "B"}), spare(q.Taints, api.Label{})
	c.Opts = spare(many(30), api.Offer{})
	d.Opts, d.Nodes = spare(many(30), api.Offer{}), spare([]string{"c1", "c2"}, "C")
	all := func() []any {
		return []any{whole(p.Reqs), whole(p.Tols), whole(p.Spread), whole(p.Near), whole(p.Apart), whole(q.Reqs), whole(q.Taints), whole(c.Opts), whole(d.Opts), whole(d.Nodes)}
	}
	was := all()
	for range 2 {
		for i, x := range []any{p, q, c, d} {
			s, e := Name(x)
			if want := []string{p.Name, q.Name, c.Name, "command"}[i]; Check(x) != api.OK || e != api.OK || s != want {
				t.Error(i, s, e)
			}
		}
		if !reflect.DeepEqual(all(), was) {
			t.Fatal("changed", all())
		}
	}
}
