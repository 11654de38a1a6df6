package codec

import (
	"encoding/binary"
	"math"
	"math/rand"
	"reflect"
	"slices"
	"strconv"
	"strings"
	"testing"

	"sutler/api"
	"sutler/object"
)

const (
	firstKind = 1
	lastKind  = 5
)

// The bytes of numbers, texts and lists, as the chapter says them.

func num(l ...int64) string {
	var b []byte
	for _, n := range l {
		b = binary.LittleEndian.AppendUint64(b, uint64(n))
	}
	return string(b)
}

func text(l ...string) string {
	b := ""
	for _, s := range l {
		b += string([]byte{byte(len(s))}) + s
	}
	return b
}

func listed(l ...string) string { return string([]byte{byte(len(l))}) + strings.Join(l, "") }

func at(ty, zone, kind string) api.Offer { return api.Offer{Type: ty, Zone: zone, Kind: kind} }

// many are n offers with names as long as may be.
func many(n int) []api.Offer {
	var l []api.Offer
	for i := range n {
		l = append(l, at("t"+strconv.Itoa(1e14+i), "z"+strings.Repeat("z", 15), "k"+strings.Repeat("-", 15)))
	}
	return l
}

// sample is an object, its kind, and the bytes that the chapter's table says.
type sample struct {
	kind  int
	x     any
	bytes string
}

// samples have no two fields alike beside each other, so that none can stand in another's place.
func samples() []sample {
	return []sample{
		{1, api.Pod{Name: "x", App: "web", Need: api.Amounts{500, 1 << 30}, Prio: -3,
			Reqs:   []api.Req{{Key: "zone", Op: api.In, Vals: []string{"b", "a", "-5"}}, {Key: "gen", Op: api.Above, N: -2}},
			Tols:   []api.Tol{{Key: "gpu", Any: true}, {Key: "old", Val: "1"}},
			Spread: []api.Spread{{Key: "host", App: "web", Skew: 2}, {Key: "zone", App: "db", Skew: 16}},
			Near:   []api.Term{{Key: "zone", App: "db"}, {Key: "host", App: "q"}, {Key: "zone", App: "r"}},
			Apart:  []api.Term{{Key: "host", App: "web"}}, Since: 7, On: "c0001"},
			text("x", "web") + num(500, 1<<30, -3) +
				listed(text("zone")+num(1)+listed(text("b"), text("a"), text("-5"))+num(0), text("gen")+num(5)+listed()+num(-2)) +
				listed(text("gpu", "")+"\x01", text("old", "1")+"\x00") +
				listed(text("host", "web")+num(2), text("zone", "db")+num(16)) +
				listed(text("zone", "db"), text("host", "q"), text("zone", "r")) +
				listed(text("host", "web")) + num(7) + text("c0001")},
		{1, api.Pod{Name: "y", App: "z"}, text("y", "z") + num(0, 0, 0) + listed() + listed() + listed() + listed() + listed() + num(0) + text("")},
		{2, api.Pool{Name: "p", Weight: 7, Limit: api.Amounts{100000, api.MaxAmount}, Reqs: []api.Req{{Key: "kind", Op: api.NotIn, Vals: []string{"spot"}}, {Key: "n", Op: api.Missing}},
			Taints: []api.Label{{Key: "gpu", Val: "yes"}, {Key: "a", Val: "-1"}}, Gen: 3, Expire: 5, Budget: 16, Merge: 2},
			text("p") + num(7, 100000, 1<<50) + listed(text("kind")+num(2)+listed(text("spot"))+num(0), text("n")+num(4)+listed()+num(0)) +
				listed(text("gpu", "yes"), text("a", "-1")) + num(3, 5, 16, 2)},
		{2, api.Pool{Name: "q"}, text("q") + num(0, 0, 0) + listed() + listed() + num(0, 0, 0, 0)},
		{3, api.Claim{Name: "c1", Pool: "p", Gen: 3, Offer: at("s", "a", "spot"), Price: 40, Cap: api.Amounts{2000, 4096}, Opts: []api.Offer{at("l", "b", "od"), at("s", "a", "spot")},
			Try: 2, Id: "I\x00\xff ä", Phase: api.Leaving, Born: api.MaxTime, Marked: true},
			text("c1", "p") + num(3) + text("s", "a", "spot") + num(40, 2000, 4096) + listed(text("l", "b", "od"), text("s", "a", "spot")) + num(2) + text("I\x00\xff ä") + num(4, 1<<40) + "\x01"},
		{3, api.Claim{Name: "c", Pool: "q", Offer: at("s", "a", "od"), Try: 1, Phase: api.Planned},
			text("c", "q") + num(0) + text("s", "a", "od") + num(0, 0, 0) + listed() + num(1) + text("") + num(1, 0) + "\x00"},
		{4, api.Command{Cause: api.Cheaper, Nodes: []string{"c1", "c2", "c3"}, Step: api.Going, Until: 0x0102030405, Fresh: "c4", Pool: "p", Opts: []api.Offer{at("s", "a", "od")}, Made: true},
			num(4) + listed(text("c1"), text("c2"), text("c3")) + num(2) + "\x05\x04\x03\x02\x01\x00\x00\x00" + text("c4", "p") + listed(text("s", "a", "od")) + "\x01"},
		{4, api.Command{Cause: api.Empty, Nodes: []string{"c1"}, Step: api.Held}, num(3) + listed(text("c1")) + num(1, 0) + text("", "") + listed() + "\x00"},
		{5, api.Cooling{Offer: at("s", "a", "spot"), Until: 5}, "\x01s\x01a\x04spot\x05\x00\x00\x00\x00\x00\x00\x00"},
		{5, api.Cooling{Offer: at(strings.Repeat("t", 16), "z.0", "k-")}, "\x10tttttttttttttttt\x03z.0\x02k-" + num(0)},
	}
}

// refused asks that nothing was read, but such an error told.
func refused(t *testing.T, kind int, b string, want api.Errno) {
	t.Helper()
	if x, e := Decode(kind, []byte(b)); x != nil || e != want {
		t.Errorf("%d, %q: %v, %d, not %d", kind, b, x, e, want)
	}
}

// TestExamples: those of the chapter.
func TestExamples(t *testing.T) {
	x := api.Cooling{Offer: at("s", "a", "spot"), Until: 5}
	const want = "\x01s\x01a\x04spot\x05\x00\x00\x00\x00\x00\x00\x00"
	if b, e := Encode(x); string(b) != want || e != api.OK {
		t.Errorf("%q, %d", b, e)
	}
	refused(t, 5, want[:len(want)-1], api.ErrShort)
	refused(t, 5, want+"\x00", api.ErrForm)
	refused(t, 6, want, api.ErrArg)
	if b, e := Encode(api.Pod{Name: "x", App: "web", Prio: 1001}); len(b) != 0 || e != api.ErrArg {
		t.Errorf("%q, %d", b, e)
	}
}

// TestBytes: P9.1 and P9.2, byte by byte as the chapter's table says.
func TestBytes(t *testing.T) {
	for i, s := range samples() {
		if b, e := Encode(s.x); string(b) != s.bytes || e != api.OK {
			t.Errorf("%d: %q, %d, not %q", i, b, e, s.bytes)
		}
		if x, e := Decode(s.kind, []byte(s.bytes)); !reflect.DeepEqual(x, s.x) || e != api.OK {
			t.Errorf("%d: %v, %d, not %v", i, x, e, s.x)
		}
	}
}

// TestNumbers: all bits of a number are written and read, each byte at its place, and a far one is not taken for a near one.
func TestNumbers(t *testing.T) {
	for shift := range 41 {
		for _, n := range []int64{1 << shift, 1<<shift - 1} {
			x := api.Cooling{Offer: at("s", "a", "od"), Until: n}
			b, e := Encode(x)
			if y, f := Decode(5, b); string(b) != text("s", "a", "od")+num(n) || y != any(x) || e != api.OK || f != api.OK {
				t.Errorf("%d: %q, %d, %v, %d", n, b, e, y, f)
			}
		}
	}
	for shift := range 64 {
		n := int64(1) << shift
		if shift > 40 {
			refused(t, 5, text("s", "a", "od")+num(n), api.ErrArg)
			refused(t, 5, text("s", "a", "od")+num(n|5), api.ErrArg)
		}
		if shift > 6 {
			refused(t, 2, text("p")+num(n|5, 0, 0)+listed()+listed()+num(0, 0, 0, 0), api.ErrArg)
			refused(t, 2, text("p")+num(^n, 0, 0)+listed()+listed()+num(0, 0, 0, 0), api.ErrArg)
		}
	}
	for _, n := range []int64{-1000, -999, -256, -1, 0, 1, 255, 256, 1000} {
		x := api.Pod{Name: "x", App: "y", Prio: int(n)}
		b, e := Encode(x)
		if y, f := Decode(1, b); string(b[20:28]) != num(n) || !reflect.DeepEqual(y, x) || e != api.OK || f != api.OK {
			t.Errorf("%d: %q, %d, %v, %d", n, b, e, y, f)
		}
	}
}

type likePod api.Pod

// TestEncodeRefuses: P9.1: object.Check's error, and no bytes.
func TestEncodeRefuses(t *testing.T) {
	o := at("s", "a", "od")
	p, w := api.Pod{Name: "x", App: "web"}, api.Cooling{Offer: o}
	for i, x := range []struct {
		x any
		e api.Errno
	}{
		{nil, api.ErrArg}, {5, api.ErrArg}, {"x", api.ErrArg}, {[]byte("x"), api.ErrArg}, {&p, api.ErrArg}, {(*api.Pod)(nil), api.ErrArg}, {likePod(p), api.ErrArg}, {[]api.Pod{p}, api.ErrArg}, {&w, api.ErrArg},
		{o, api.ErrArg}, {api.Type{Name: "s"}, api.ErrArg}, {api.Item{Kind: 1, Name: "x"}, api.ErrArg}, {api.Snap{}, api.ErrArg}, {func() {}, api.ErrArg}, {map[string]int{}, api.ErrArg},
		{api.Pod{}, api.ErrName}, {api.Pool{}, api.ErrName}, {api.Claim{}, api.ErrName}, {api.Command{}, api.ErrArg}, {api.Cooling{}, api.ErrName},
		{api.Pod{Name: "x", App: "web", Need: api.Amounts{0, -1}}, api.ErrBelow},
		{api.Pod{Name: "x", App: "web", Need: api.Amounts{api.MaxAmount + 1}}, api.ErrOver},
		{api.Pod{Name: strings.Repeat("x", 17), App: "web"}, api.ErrName},
		{api.Pod{Name: strings.Repeat("x", 256), App: "web"}, api.ErrName},
		{api.Pod{Name: "x", App: "web", Reqs: []api.Req{{Key: "zone"}}}, api.ErrOp},
		{api.Pod{Name: "x", App: "web", Reqs: []api.Req{{Key: "zone", Op: api.In, Vals: []string{"a", "a"}}}}, api.ErrTwice},
		{api.Pod{Name: "x", App: "web", Tols: []api.Tol{{Key: "gpu", Val: "a", Any: true}}}, api.ErrForm},
		{api.Pod{Name: "x", App: "web", Near: slices.Repeat([]api.Term{{Key: "zone", App: "web"}}, 4)}, api.ErrMany},
		{api.Pod{Name: "x", App: "web", Near: slices.Repeat([]api.Term{{Key: "zone", App: "web"}}, 256)}, api.ErrMany},
		{api.Pool{Name: "p", Merge: 3}, api.ErrArg},
		{api.Pool{Name: "p", Taints: make([]api.Label, 5)}, api.ErrMany},
		{api.Claim{Name: "c1", Pool: "p", Offer: o, Try: 1, Phase: 1, Id: strings.Repeat("i", 17)}, api.ErrLong},
		{api.Claim{Name: "c1", Pool: "p", Offer: o, Try: 1, Phase: 1, Id: strings.Repeat("i", 1<<20)}, api.ErrLong},
		{api.Claim{Name: "c1", Pool: "p", Offer: o, Try: 1, Phase: 1, Opts: many(73)}, api.ErrMany},
		{api.Command{Cause: 1, Step: 1, Nodes: []string{"c2", "c1"}}, api.ErrTwice},
		{api.Command{Cause: 1, Step: 1, Nodes: make([]string, 1000)}, api.ErrMany},
		{api.Cooling{Offer: o, Until: -1}, api.ErrArg},
		{api.Cooling{Offer: at("s", "", "od")}, api.ErrName},
	} {
		if b, e := Encode(x.x); len(b) != 0 || e != x.e || e != object.Check(x.x) {
			t.Errorf("%d: %q, %d, not %d", i, b, e, x.e)
		}
	}
}

// TestKindAndLong: P9.2: the kind is asked first, then how many bytes there are, whatever they are.
func TestKindAndLong(t *testing.T) {
	long := strings.Repeat("\xff", api.MaxBytes+1)
	for _, kind := range []int{0, -1, 6, 7, 255, 256 + 1, 1<<32 + 1, math.MaxInt, math.MinInt} {
		refused(t, kind, "", api.ErrArg)
		refused(t, kind, long, api.ErrArg)
		for _, s := range samples() {
			refused(t, kind, s.bytes, api.ErrArg)
		}
	}
	for kind := firstKind; kind <= lastKind; kind++ {
		refused(t, kind, "", api.ErrShort)
		refused(t, kind, long, api.ErrLong)
		refused(t, kind, strings.Repeat("\x00", 1<<20), api.ErrLong)
		for _, s := range samples() {
			if s.kind == kind {
				behind := strings.Repeat("\x00", api.MaxBytes-len(s.bytes))
				refused(t, kind, s.bytes+behind, api.ErrForm)
				refused(t, kind, s.bytes+behind+"\x00", api.ErrLong)
			}
		}
	}
	if x, e := Decode(5, nil); x != nil || e != api.ErrShort {
		t.Error(x, e)
	}
}

// TestCut: P9.2 and P9.3: whatever is cut off behind, or stands there, is told.
func TestCut(t *testing.T) {
	for _, s := range samples() {
		for n := range len(s.bytes) {
			refused(t, s.kind, s.bytes[:n], api.ErrShort)
		}
		for _, behind := range []string{"\x00", "\x01", "\xff", "\x00\x00", s.bytes} {
			refused(t, s.kind, s.bytes+behind, api.ErrForm)
		}
	}
}

// TestTruths: P9.2: a truth is 0 or 1; what stands further ahead tells.
func TestTruths(t *testing.T) {
	claim, command := samples()[5].bytes, samples()[7].bytes
	tol := func(truth string) string {
		return text("x", "web") + num(0, 0, 0) + listed() + listed(text("gpu", "")+truth, text("old", "1")+"\x00")
	}
	rest := listed() + listed() + listed() + num(0) + text("")
	for n := 2; n < 256; n++ {
		truth := string([]byte{byte(n)})
		refused(t, 3, claim[:len(claim)-1]+truth, api.ErrForm)
		refused(t, 3, claim[:len(claim)-1]+truth+"\x00", api.ErrForm)
		refused(t, 4, command[:len(command)-1]+truth, api.ErrForm)
		refused(t, 1, tol(truth)+rest, api.ErrForm)
		// Cut behind the truth: it stands further ahead; cut ahead of it: nobody reads it.
		at := strings.Index(tol(truth), "gpu") + 4
		for cut := range len(tol(truth)) {
			want := api.ErrForm
			if cut <= at {
				want = api.ErrShort
			}
			refused(t, 1, tol(truth)[:cut], want)
		}
	}
	for _, truth := range []string{"\x00", "\x01"} {
		x, e := Decode(3, []byte(claim[:len(claim)-1]+truth))
		if c, _ := x.(api.Claim); c.Marked != (truth == "\x01") || e != api.OK {
			t.Error(x, e)
		}
	}
}

// TestLists: P9.2: lists and texts are as long as they say; what they are too long for is object.Check's error.
func TestLists(t *testing.T) {
	req, term, tol := text("zone")+num(3)+listed()+num(0), text("zone", "db"), text("gpu", "")+"\x01"
	pod := func(lists ...string) string {
		return text("x", "web") + num(0, 0, 0) + strings.Join(lists, "") + num(0) + text("")
	}
	of := func(n int, s string) string { return listed(slices.Repeat([]string{s}, n)...) }
	claim := func(offers, id string) string {
		return text("c1", "p") + num(0) + text("s", "a", "od") + num(0, 0, 0) + offers + num(1) + text(id) + num(1, 0) + "\x00"
	}
	var offers []string
	for _, o := range many(73) {
		offers = append(offers, text(o.Type, o.Zone, o.Kind))
	}
	for _, x := range []struct {
		kind int
		b    string
		e    api.Errno
	}{
		{1, pod(of(8, req), of(0, ""), of(0, ""), of(0, ""), of(0, "")), api.OK},
		{1, pod(of(9, req), of(0, ""), of(0, ""), of(0, ""), of(0, "")), api.ErrMany},
		{1, pod(of(200, text("")+num(0)+listed()+num(0)), of(0, ""), of(0, ""), of(0, ""), of(0, "")), api.ErrMany},
		{1, pod(of(0, ""), of(5, tol), of(0, ""), of(0, ""), of(0, "")), api.ErrMany},
		{1, pod(of(0, ""), of(255, tol), of(0, ""), of(0, ""), of(0, "")), api.ErrMany},
		{1, pod(of(0, ""), of(0, ""), of(0, ""), of(3, term), of(3, term)), api.OK},
		{1, pod(of(0, ""), of(0, ""), of(0, ""), of(3, term), of(4, term)), api.ErrMany},
		{1, pod(of(0, ""), of(0, ""), of(0, ""), of(255, term), of(0, "")), api.ErrMany},
		{1, pod(listed(text("zone")+num(1)+of(255, text("a"))+num(0)), of(0, ""), of(0, ""), of(0, ""), of(0, "")), api.ErrMany},
		{3, claim(listed(offers[:72]...), "i"), api.OK},
		{3, claim(listed(offers...), "i"), api.ErrMany},
		{3, claim(of(255, text("", "", "")), "i"), api.ErrMany},
		{3, claim(of(2, text("s", "a", "od")), "i"), api.ErrTwice},
		{3, claim(of(0, ""), strings.Repeat("i", 16)), api.OK},
		{3, claim(of(0, ""), strings.Repeat("i", 17)), api.ErrLong},
		{3, claim(of(0, ""), strings.Repeat("i", 255)), api.ErrLong},
		{5, text(strings.Repeat("s", 16), "a", "od") + num(1), api.OK},
		{5, text(strings.Repeat("s", 17), "a", "od") + num(1), api.ErrName},
		{5, text(strings.Repeat("s", 255), strings.Repeat("a", 255), strings.Repeat("k", 255)) + num(1), api.ErrName},
		{4, num(4) + of(255, text("")) + num(1, 0) + text("", "") + listed() + "\x00", api.ErrMany},
		{4, num(4) + listed() + num(1, 0) + text("", "") + listed() + "\x00", api.ErrArg},
	} {
		y, e := Decode(x.kind, []byte(x.b))
		if e != x.e || (y == nil) != (e != api.OK) {
			t.Errorf("%d, %q: %v, %d, not %d", x.kind, x.b, y, e, x.e)
		}
		// What can't be read tells ahead of what may not be.
		refused(t, x.kind, x.b[:len(x.b)-1], api.ErrShort)
		refused(t, x.kind, x.b+"\x00", api.ErrForm)
	}
}

// TestLargest: P9.1: the greatest objects of their kinds are at most MaxBytes, and read again.
func TestLargest(t *testing.T) {
	long, up := strings.Repeat("x", 16), api.Amounts{api.MaxAmount, api.MaxAmount}
	var reqs []api.Req
	for range api.MaxReqs {
		r := api.Req{Key: long, Op: api.In}
		for i := range api.MaxVals {
			r.Vals = append(r.Vals, "v"+strconv.Itoa(1e14+i))
		}
		reqs = append(reqs, r)
	}
	pod := api.Pod{Name: long, App: long, Need: up, Prio: -1000, Reqs: reqs, Since: api.MaxTime, On: long}
	for i := range api.MaxTols {
		pod.Tols = append(pod.Tols, api.Tol{Key: long, Val: "v" + strconv.Itoa(1e14+i)})
	}
	pod.Spread = slices.Repeat([]api.Spread{{Key: "zone", App: long, Skew: 16}}, api.MaxTerms)
	pod.Near = slices.Repeat([]api.Term{{Key: "host", App: long}}, api.MaxTerms)
	pod.Apart = slices.Clone(pod.Near)
	pool := api.Pool{Name: long, Weight: 100, Limit: up, Reqs: reqs, Gen: api.MaxTime, Expire: api.MaxSpan, Budget: 16, Merge: 2}
	for i := range api.MaxTaints {
		pool.Taints = append(pool.Taints, api.Label{Key: "k" + strconv.Itoa(1e14+i), Val: long})
	}
	claim := api.Claim{Name: long, Pool: long, Gen: api.MaxTime, Offer: many(1)[0], Price: api.MaxAmount, Cap: up, Opts: many(72), Try: 32, Id: strings.Repeat("\xff", 16), Phase: 4, Born: api.MaxTime, Marked: true}
	var nodes []string
	for i := range 4 {
		nodes = append(nodes, "n"+strconv.Itoa(1e14+i))
	}
	command := api.Command{Cause: 4, Nodes: nodes, Step: 3, Until: api.MaxTime, Fresh: long, Pool: long, Opts: many(72), Made: true}
	cooling := api.Cooling{Offer: many(1)[0], Until: api.MaxTime}
	for i, x := range []any{pod, pool, claim, command, cooling} {
		b, e := Encode(x)
		y, f := Decode(i+1, b)
		if e != api.OK || f != api.OK || !reflect.DeepEqual(x, y) {
			t.Errorf("%d: %d, %d, %v", i+1, e, f, y)
		}
		if want := []int{1810, 1571, 3832, 3801, 59}[i]; len(b) != want || len(b) > api.MaxBytes {
			t.Errorf("%d: %d bytes, not %d", i+1, len(b), want)
		}
	}
}

// anew reads by the chapter's words said anew: api's fields stand in the table's order.
type anew struct {
	rest []byte
	e    api.Errno
}

// next is the next n bytes; without so many, the error stands and nothing is read any more.
func (a *anew) next(n int) []byte {
	if a.e == api.OK && len(a.rest) < n {
		a.e = api.ErrShort
	}
	if a.e != api.OK {
		return make([]byte, n)
	}
	b := a.rest[:n]
	a.rest = a.rest[n:]
	return b
}

func (a *anew) fill(v reflect.Value) {
	switch v.Kind() {
	case reflect.Int, reflect.Int64:
		v.SetInt(int64(binary.LittleEndian.Uint64(a.next(8))))
	case reflect.String:
		v.SetString(string(a.next(int(a.next(1)[0]))))
	case reflect.Bool:
		b := a.next(1)[0]
		if b > 1 {
			a.e = api.ErrForm
		}
		v.SetBool(b == 1)
	case reflect.Slice:
		for n := int(a.next(1)[0]); n > 0 && a.e == api.OK; n-- {
			one := reflect.New(v.Type().Elem()).Elem()
			a.fill(one)
			v.Set(reflect.Append(v, one))
		}
	case reflect.Array:
		for i := range v.Len() {
			a.fill(v.Index(i))
		}
	case reflect.Struct:
		for i := range v.NumField() {
			a.fill(v.Field(i))
		}
	default:
		panic(v.Kind())
	}
}

// decoded is what Decode has to answer.
func decoded(kind int, b []byte) (any, api.Errno) {
	if kind < firstKind || kind > lastKind {
		return nil, api.ErrArg
	}
	if len(b) > api.MaxBytes {
		return nil, api.ErrLong
	}
	v := reflect.New(reflect.TypeOf([]any{api.Pod{}, api.Pool{}, api.Claim{}, api.Command{}, api.Cooling{}}[kind-1])).Elem()
	a := &anew{rest: b}
	a.fill(v)
	if a.e == api.OK && len(a.rest) > 0 {
		a.e = api.ErrForm
	}
	if a.e == api.OK {
		a.e = object.Check(v.Interface())
	}
	if a.e != api.OK {
		return nil, a.e
	}
	return v.Interface(), api.OK
}

// turned is bytes with something changed.
func turned(r *rand.Rand, b, other []byte) []byte {
	b = slices.Clone(b)
	for range 1 + r.Intn(3) {
		i := r.Intn(len(b) + 1)
		switch r.Intn(6) {
		case 0:
			b = slices.Insert(b, i, byte(r.Intn(256)))
		case 1:
			b = slices.Insert(b, i, byte(r.Intn(3)))
		case 2:
			b = slices.Concat(b[:i], other[r.Intn(len(other)+1):])
		case 3:
			b = b[:i]
		default:
			if i < len(b) {
				b[i] = []byte{0, 1, 2, 255, b[i] + 1, b[i] - 1, byte(r.Intn(256))}[r.Intn(7)]
			}
		}
	}
	return b
}

// TestAnew: P9.2 and P9.3, of bytes of any kind: what Decode answers is what the chapter's words say, and what it takes Encode writes as these bytes.
func TestAnew(t *testing.T) {
	r := rand.New(rand.NewSource(1))
	seen := map[api.Errno]int{}
	for range 60000 {
		kind := firstKind + r.Intn(lastKind)
		b, _ := Encode(anyObject(r, kind))
		other, _ := Encode(anyObject(r, firstKind+r.Intn(lastKind)))
		b = turned(r, b, other)
		x, e := Decode(kind, b)
		if want, f := decoded(kind, b); e != f || !reflect.DeepEqual(x, want) {
			t.Fatalf("%d, %q: %v, %d, not %v, %d", kind, b, x, e, want, f)
		}
		seen[e]++
		if e != api.OK {
			continue
		}
		if again, f := Encode(x); string(again) != string(b) || f != api.OK {
			t.Fatalf("%d, %q: %v is %q, %d", kind, b, x, again, f)
		}
	}
	for _, e := range []api.Errno{api.OK, api.ErrShort, api.ErrForm, api.ErrArg, api.ErrName, api.ErrOp, api.ErrBelow, api.ErrOver} {
		if seen[e] < 20 {
			t.Error("few", e, seen[e])
		}
	}
}

// TestAnyBytes: R1: bytes without any sense are refused as the chapter says.
func TestAnyBytes(t *testing.T) {
	r := rand.New(rand.NewSource(2))
	for range 20000 {
		b := make([]byte, r.Intn(200))
		top := 1 + r.Intn(256)
		for i := range b {
			b[i] = byte(r.Intn(top))
		}
		kind := r.Intn(8) - 1
		x, e := Decode(kind, b)
		if want, f := decoded(kind, b); e != f || !reflect.DeepEqual(x, want) {
			t.Fatalf("%d, %q: %v, %d, not %v, %d", kind, b, x, e, want, f)
		}
	}
}

// TestFollows: P9.3, of objects that may be: each is read as it was written, and its bytes go on as no other one's.
func TestFollows(t *testing.T) {
	r := rand.New(rand.NewSource(3))
	for kind := firstKind; kind <= lastKind; kind++ {
		var all []string
		for range 1000 {
			x := anyObject(r, kind)
			b, e := Encode(x)
			if e != api.OK || len(b) > api.MaxBytes {
				t.Fatal(x, e, len(b))
			}
			if y, e := Decode(kind, b); e != api.OK || !reflect.DeepEqual(x, y) {
				t.Fatal(x, y, e)
			}
			all = append(all, string(b))
		}
		slices.Sort(all)
		all = slices.Compact(all)
		for i := 1; i < len(all); i++ {
			// Sorted, what goes on as another one would stand right behind it.
			if strings.HasPrefix(all[i], all[i-1]) {
				t.Errorf("%d: %q goes on as %q", kind, all[i-1], all[i])
			}
		}
		if len(all) < 500 {
			t.Error("few", kind, len(all))
		}
	}
}

func one(r *rand.Rand, l ...string) string { return l[r.Intn(len(l))] }

func anyName(r *rand.Rand) string {
	return one(r, "a", "b", "web", "c0001", "c0002", "q-.9", strings.Repeat("y", 16))
}

func anyTime(r *rand.Rand) int64 { return r.Int63n(api.MaxTime+1) >> r.Intn(41) }

func anyAmounts(r *rand.Rand) api.Amounts {
	return api.Amounts{r.Int63n(api.MaxAmount+1) >> r.Intn(51), r.Int63n(api.MaxAmount+1) >> r.Intn(51)}
}

func anyReqs(r *rand.Rand) []api.Req {
	var l []api.Req
	for range r.Intn(api.MaxReqs + 1) {
		q := api.Req{Key: anyName(r), Op: 1 + r.Intn(6)}
		if q.Op == api.In || q.Op == api.NotIn {
			q.Vals = slices.Clone([]string{"a", "-5", "b"}[:1+r.Intn(3)])
		} else if q.Op > api.Missing {
			q.N = r.Int63n(9) - 4
		}
		l = append(l, q)
	}
	return l
}

func anyOffers(r *rand.Rand) []api.Offer {
	var l []api.Offer
	for _, ty := range []string{"s", "l", "m"} {
		for _, kind := range []string{"od", "spot"} {
			if r.Intn(2) == 0 {
				l = append(l, at(ty, anyName(r), kind))
			}
		}
	}
	return l
}

func anyPod(r *rand.Rand) api.Pod {
	p := api.Pod{Name: anyName(r), App: anyName(r), Need: anyAmounts(r), Prio: r.Intn(2001) - 1000, Reqs: anyReqs(r), Since: anyTime(r), On: one(r, "", anyName(r))}
	for i := range r.Intn(api.MaxTols + 1) {
		p.Tols = append(p.Tols, []api.Tol{{Key: "a", Any: true}, {Key: "a", Val: "1"}, {Key: "b", Val: "1"}, {Key: "b", Val: "-1"}}[i])
	}
	term := func() api.Term { return api.Term{Key: one(r, "zone", "host"), App: anyName(r)} }
	for range r.Intn(api.MaxTerms + 1) {
		p.Spread = append(p.Spread, api.Spread{Key: term().Key, App: anyName(r), Skew: 1 + r.Intn(16)})
	}
	for range r.Intn(api.MaxTerms + 1) {
		p.Near = append(p.Near, term())
	}
	for range r.Intn(api.MaxTerms + 1) {
		p.Apart = append(p.Apart, term())
	}
	return p
}

func anyPool(r *rand.Rand) api.Pool {
	p := api.Pool{Name: anyName(r), Weight: r.Intn(101), Limit: anyAmounts(r), Reqs: anyReqs(r), Gen: anyTime(r), Expire: r.Int63n(api.MaxSpan + 1), Budget: r.Intn(17), Merge: r.Intn(3)}
	for i := range r.Intn(api.MaxTaints + 1) {
		p.Taints = append(p.Taints, api.Label{Key: []string{"a", "b", "c", "d"}[i], Val: one(r, "x", "-1", "0")})
	}
	return p
}

// anyObject is an object of the kind that may be.
func anyObject(r *rand.Rand, kind int) any {
	o := at(anyName(r), anyName(r), one(r, "od", "spot"))
	switch kind {
	case 1:
		return anyPod(r)
	case 2:
		return anyPool(r)
	case 3:
		return api.Claim{Name: anyName(r), Pool: anyName(r), Gen: anyTime(r), Offer: o, Price: anyAmounts(r)[0], Cap: anyAmounts(r), Opts: anyOffers(r),
			Try: 1 + r.Intn(32), Id: one(r, "", "i1", "\xff\x00"), Phase: 1 + r.Intn(4), Born: anyTime(r), Marked: r.Intn(2) == 0}
	case 4:
		return api.Command{Cause: 1 + r.Intn(4), Nodes: slices.Clone([]string{"c1", "c2", "c3", "c4"}[r.Intn(4):]), Step: 1 + r.Intn(3), Until: anyTime(r),
			Fresh: one(r, "", anyName(r)), Pool: one(r, "", anyName(r)), Opts: anyOffers(r), Made: r.Intn(2) == 0}
	default:
		return api.Cooling{Offer: o, Until: anyTime(r)}
	}
}

// TestEmptyLists: R3: an empty list is written as a nil one.
func TestEmptyLists(t *testing.T) {
	for i, pair := range [][2]any{
		{api.Pod{Name: "x", App: "y"}, api.Pod{Name: "x", App: "y", Reqs: []api.Req{}, Tols: []api.Tol{}, Spread: []api.Spread{}, Near: []api.Term{}, Apart: []api.Term{}}},
		{api.Pool{Name: "p", Reqs: []api.Req{{Key: "a", Op: api.Exists}}}, api.Pool{Name: "p", Reqs: []api.Req{{Key: "a", Op: api.Exists, Vals: []string{}}}, Taints: []api.Label{}}},
		{api.Claim{Name: "c", Pool: "p", Offer: at("s", "a", "od"), Try: 1, Phase: 1}, api.Claim{Name: "c", Pool: "p", Offer: at("s", "a", "od"), Try: 1, Phase: 1, Opts: []api.Offer{}}},
	} {
		a, e := Encode(pair[0])
		b, f := Encode(pair[1])
		if string(a) != string(b) || e != api.OK || f != api.OK {
			t.Errorf("%d: %q, %d, %q, %d", i, a, e, b, f)
		}
	}
}

// TestMemory: R4 and R5: nothing that is handed in changes, nor the room behind it; nothing that is answered changes with it, or with another answer; asked again, the same is told.
func TestMemory(t *testing.T) {
	for _, s := range samples() {
		room := append([]byte(s.bytes), "behind"...)
		x, e := Decode(s.kind, room[:len(s.bytes)])
		if string(room) != s.bytes+"behind" {
			t.Errorf("%q changed", room)
		}
		y, f := Decode(s.kind, room[:len(s.bytes)])
		clear(room)
		if e != api.OK || f != api.OK || !reflect.DeepEqual(x, s.x) || !reflect.DeepEqual(y, s.x) {
			t.Errorf("%v, %d, %v, %d, not %v", x, e, y, f, s.x)
		}
		a, _ := Encode(x)
		b, _ := Encode(x)
		clear(a[:cap(a)])
		if string(b) != s.bytes || !reflect.DeepEqual(x, s.x) {
			t.Errorf("%q, %v, not %q", b, x, s.bytes)
		}
	}
}

// TestListsApart: R4: no two lists of one answer share memory, spare room too.
func TestListsApart(t *testing.T) {
	s := samples()[0]
	x, _ := Decode(1, []byte(s.bytes))
	p := x.(api.Pod)
	for i := range p.Reqs {
		l := p.Reqs[i].Vals
		for j := range l[:cap(l)] {
			l[:cap(l)][j] = "other"
		}
	}
	wipe(p.Reqs)
	wipe(p.Tols)
	wipe(p.Spread)
	wipe(p.Near)
	if want := samples()[0].x.(api.Pod).Apart; !reflect.DeepEqual(p.Apart, want) {
		t.Error(p.Apart)
	}
	y, e := Decode(1, []byte(s.bytes))
	if !reflect.DeepEqual(y, s.x) || e != api.OK {
		t.Error(y, e)
	}
	q := y.(api.Pod)
	wipe(q.Apart)
	if want := samples()[0].x.(api.Pod).Near; !reflect.DeepEqual(q.Near, want) {
		t.Error(q.Near)
	}
	_ = append(q.Reqs[0].Vals, "other")
	_ = append(q.Reqs, api.Req{})
	if !reflect.DeepEqual(q.Reqs, samples()[0].x.(api.Pod).Reqs) {
		t.Error(q.Reqs)
	}
}

// wipe clears a list and the room behind it.
func wipe[T any](l []T) { clear(l[:cap(l)]) }
