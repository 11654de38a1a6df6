package codec

import "sutler/api"

// writer writes on behind its bytes. What it writes has to be an object that may be: only so does each length fit into one byte.
type writer struct{ b []byte }

func (w *writer) object(x any) {
	switch o := x.(type) {
	case api.Pod:
		w.pod(o)
	case api.Pool:
		w.pool(o)
	case api.Claim:
		w.claim(o)
	case api.Command:
		w.command(o)
	case api.Cooling:
		w.cooling(o)
	}
}

func (w *writer) pod(p api.Pod) {
	w.text(p.Name)
	w.text(p.App)
	w.amounts(p.Need)
	w.number(int64(p.Prio))
	writeList(w, p.Reqs, w.req)
	writeList(w, p.Tols, w.tol)
	writeList(w, p.Spread, w.spread)
	writeList(w, p.Near, w.term)
	writeList(w, p.Apart, w.term)
	w.number(p.Since)
	w.text(p.On)
}

func (w *writer) pool(p api.Pool) {
	w.text(p.Name)
	w.number(int64(p.Weight))
	w.amounts(p.Limit)
	writeList(w, p.Reqs, w.req)
	writeList(w, p.Taints, w.label)
	w.number(p.Gen)
	w.number(p.Expire)
	w.number(int64(p.Budget))
	w.number(int64(p.Merge))
}

func (w *writer) claim(c api.Claim) {
	w.text(c.Name)
	w.text(c.Pool)
	w.number(c.Gen)
	w.offer(c.Offer)
	w.number(c.Price)
	w.amounts(c.Cap)
	writeList(w, c.Opts, w.offer)
	w.number(int64(c.Try))
	w.text(c.Id)
	w.number(int64(c.Phase))
	w.number(c.Born)
	w.truth(c.Marked)
}

func (w *writer) command(c api.Command) {
	w.number(int64(c.Cause))
	writeList(w, c.Nodes, w.text)
	w.number(int64(c.Step))
	w.number(c.Until)
	w.text(c.Fresh)
	w.text(c.Pool)
	writeList(w, c.Opts, w.offer)
	w.truth(c.Made)
}

func (w *writer) cooling(c api.Cooling) {
	w.offer(c.Offer)
	w.number(c.Until)
}

func (w *writer) req(r api.Req) {
	w.text(r.Key)
	w.number(int64(r.Op))
	writeList(w, r.Vals, w.text)
	w.number(r.N)
}

func (w *writer) tol(t api.Tol) {
	w.text(t.Key)
	w.text(t.Val)
	w.truth(t.Any)
}

func (w *writer) spread(s api.Spread) {
	w.text(s.Key)
	w.text(s.App)
	w.number(int64(s.Skew))
}

func (w *writer) term(t api.Term) {
	w.text(t.Key)
	w.text(t.App)
}

func (w *writer) label(l api.Label) {
	w.text(l.Key)
	w.text(l.Val)
}

func (w *writer) offer(o api.Offer) {
	w.text(o.Type)
	w.text(o.Zone)
	w.text(o.Kind)
}

func (w *writer) amounts(a api.Amounts) {
	for _, n := range a {
		w.number(n)
	}
}

func writeList[T any](w *writer, l []T, one func(T)) {
	w.length(len(l))
	for _, x := range l {
		one(x)
	}
}

func (w *writer) text(s string) {
	w.length(len(s))
	w.b = append(w.b, s...)
}

func (w *writer) truth(holds bool) {
	if holds {
		w.b = append(w.b, 1)
	} else {
		w.b = append(w.b, 0)
	}
}

// number writes the lowest byte first.
func (w *writer) number(n int64) {
	for i := range numberBytes {
		w.b = append(w.b, byte(n>>(8*i)))
	}
}

func (w *writer) length(n int) { w.b = append(w.b, byte(n)) }
