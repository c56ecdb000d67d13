package fretwork

import (
	"slices"

	"fretwork/api"
	"fretwork/tables"
)

// going is one going through the solutions. It only reads the fretwork, so that there is nothing to put back.
type going struct {
	work  *Work
	ready [api.MaxVars][]tables.Table // the tables whose last variable is this one
	list  []int                       // the values of the first variables
	yield func([]int) bool
}

// goThrough is what Solutions answers. It keeps nothing of its own, so that each going begins anew.
func (w *Work) goThrough(yield func([]int) bool) {
	if w.busy || yield == nil {
		return
	}
	w.busy = true
	// A panic in yield ends the going, too.
	defer func() { w.busy = false }()
	g := going{work: w, yield: yield}
	for _, t := range w.tables {
		g.ready[t.Last()] = append(g.ready[t.Last()], t)
	}
	g.goOn()
}

// goOn goes through the solutions that begin with list, and tells whether yield wants more.
func (g *going) goOn() bool {
	v := len(g.list)
	if v == len(g.work.sizes) {
		return g.yield(slices.Clone(g.list))
	}
	for value := range g.work.domains[v].Each {
		g.list = append(g.list[:v], value)
		if g.fits() && !g.goOn() {
			return false
		}
	}
	return true
}

// fits asks the tables that have the last variable of list as their last one: all others were asked ahead of it, or
// need a value that list does not have yet.
func (g *going) fits() bool {
	for _, t := range g.ready[len(g.list)-1] {
		if !t.Allows(g.list) {
			return false
		}
	}
	return true
}
