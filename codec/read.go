package codec

import "sutler/api"

// layout is how objects of a kind are read.
type layout struct {
	kind int
	read func(*reader) any
}

func layouts() []layout {
	return []layout{
		{api.PodObject, (*reader).pod},
		{api.PoolObject, (*reader).pool},
		{api.ClaimObject, (*reader).claim},
		{api.CommandObject, (*reader).command},
		{api.CoolObject, (*reader).cooling},
	}
}

// layoutOf is how objects of a kind are read, if there is such a kind.
func layoutOf(kind int) (layout, bool) {
	for _, l := range layouts() {
		if l.kind == kind {
			return l, true
		}
	}
	return layout{}, false
}

// whole reads an object that bytes are, all of them. A reader gives up deep within lists of lists by a panic with its error, so that what stands further ahead tells, and nobody on the way has to ask.
func whole(one layout, b []byte) (x any, e api.Errno) {
	defer func() {
		if fault := recover(); fault != nil {
			x, e = nil, fault.(api.Errno)
		}
	}()
	r := &reader{rest: b}
	x = one.read(r)
	r.end()
	return x, api.OK
}

// reader reads on through bytes. The calls in a literal are made in the order in which they stand: that is the order of the bytes.
type reader struct{ rest []byte }

func (r *reader) pod() any {
	return api.Pod{
		Name:   r.text(),
		App:    r.text(),
		Need:   r.amounts(),
		Prio:   r.small(),
		Reqs:   readList(r, r.req),
		Tols:   readList(r, r.tol),
		Spread: readList(r, r.spread),
		Near:   readList(r, r.term),
		Apart:  readList(r, r.term),
		Since:  r.number(),
		On:     r.text(),
	}
}

func (r *reader) pool() any {
	return api.Pool{
		Name:   r.text(),
		Weight: r.small(),
		Limit:  r.amounts(),
		Reqs:   readList(r, r.req),
		Taints: readList(r, r.label),
		Gen:    r.number(),
		Expire: r.number(),
		Budget: r.small(),
		Merge:  r.small(),
	}
}

func (r *reader) claim() any {
	return api.Claim{
		Name:   r.text(),
		Pool:   r.text(),
		Gen:    r.number(),
		Offer:  r.offer(),
		Price:  r.number(),
		Cap:    r.amounts(),
		Opts:   readList(r, r.offer),
		Try:    r.small(),
		Id:     r.text(),
		Phase:  r.small(),
		Born:   r.number(),
		Marked: r.truth(),
	}
}

func (r *reader) command() any {
	return api.Command{
		Cause: r.small(),
		Nodes: readList(r, r.text),
		Step:  r.small(),
		Until: r.number(),
		Fresh: r.text(),
		Pool:  r.text(),
		Opts:  readList(r, r.offer),
		Made:  r.truth(),
	}
}

func (r *reader) cooling() any {
	return api.Cooling{Offer: r.offer(), Until: r.number()}
}

func (r *reader) req() api.Req {
	return api.Req{Key: r.text(), Op: r.small(), Vals: readList(r, r.text), N: r.number()}
}

func (r *reader) tol() api.Tol {
	return api.Tol{Key: r.text(), Val: r.text(), Any: r.truth()}
}

func (r *reader) spread() api.Spread {
	return api.Spread{Key: r.text(), App: r.text(), Skew: r.small()}
}

func (r *reader) term() api.Term { return api.Term{Key: r.text(), App: r.text()} }

func (r *reader) label() api.Label { return api.Label{Key: r.text(), Val: r.text()} }

func (r *reader) offer() api.Offer {
	return api.Offer{Type: r.text(), Zone: r.text(), Kind: r.text()}
}

func (r *reader) amounts() api.Amounts { return api.Amounts{r.number(), r.number()} }

// readList reads as many as the list says: whether they are too many is asked of the whole object.
func readList[T any](r *reader, one func() T) []T {
	var l []T
	for range r.single() {
		l = append(l, one())
	}
	return l
}

func (r *reader) text() string { return string(r.take(r.single())) }

func (r *reader) truth() bool {
	n := r.single()
	if n > 1 {
		panic(api.ErrForm)
	}
	return n == 1
}

// number reads the lowest byte first.
func (r *reader) number() int64 {
	var n int64
	for i, c := range r.take(numberBytes) {
		n |= int64(c) << (8 * i)
	}
	return n
}

func (r *reader) small() int { return int(r.number()) }

func (r *reader) single() int { return int(r.take(1)[0]) }

// take is the next n bytes.
func (r *reader) take(n int) []byte {
	if n > len(r.rest) {
		panic(api.ErrShort)
	}
	b := r.rest[:n]
	r.rest = r.rest[n:]
	return b
}

func (r *reader) end() {
	if len(r.rest) > 0 {
		panic(api.ErrForm)
	}
}
