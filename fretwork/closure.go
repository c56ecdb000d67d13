package fretwork

import (
	"slices"

	"fretwork/api"
	"fretwork/tables"
	"fretwork/values"
)

// marks tells which tables may have something to take away.
type marks [api.MaxTables]bool

// dead asks one domain alone: settle empties all of them together.
func (w *Work) dead() bool { return w.domains[0] == 0 }

// restrict gives v this domain, and takes the closure.
func (w *Work) restrict(v int, domain values.Set) {
	next := w.domains
	next[v] = domain
	var waiting marks
	w.wake(&waiting, w.domains, next)
	w.settle(next, waiting)
}

// wake marks the tables that have a variable whose domain is another now.
func (w *Work) wake(waiting *marks, before, after values.Domains) {
	for k, t := range w.tables {
		if t.Changed(before, after) {
			waiting[k] = true
		}
	}
}

// settle makes the closure of next the domains. The tables that do not wait support all of next already.
func (w *Work) settle(next values.Domains, waiting marks) {
	for !w.emptied(next) {
		k := slices.Index(waiting[:], true)
		if k < 0 {
			w.replace(next)
			return
		}
		narrowed := w.narrow(w.tables[k], next)
		w.wake(&waiting, next, narrowed)
		// What a table leaves it supports: it need not be woken by its own change.
		waiting[k] = false
		next = narrowed
	}
	w.replace(values.Domains{})
}

// narrow asks t, and writes on the trail what it was.
func (w *Work) narrow(t tables.Table, domains values.Domains) values.Domains {
	was := t.State()
	w.trail.Write(func() { tables.PutBack(t, was) })
	return t.Narrow(domains)
}

// replace makes next the domains, and writes on the trail what they were.
func (w *Work) replace(next values.Domains) {
	was := w.domains
	if next == was {
		return
	}
	w.trail.Write(func() { w.domains = was })
	w.domains = next
}

func (w *Work) emptied(domains values.Domains) bool {
	return slices.Contains(domains[:len(w.sizes)], 0)
}
