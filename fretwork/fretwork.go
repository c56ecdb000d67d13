// Package fretwork: what fits into tables: see DOC.md.
package fretwork

import (
	"slices"

	"fretwork/api"
	"fretwork/tables"
	"fretwork/trail"
	"fretwork/values"
)

// Work: variables, and tables of what may stand together.
type Work struct {
	sizes   []int
	domains values.Domains
	tables  []tables.Table
	trail   trail.Trail
	busy    bool // while a going through the solutions is under way
}

// New makes a fretwork (P3).
func New(sizes ...int) (*Work, api.Errno) {
	if len(sizes) < 1 || len(sizes) > api.MaxVars {
		return nil, api.ErrArg
	}
	w := &Work{sizes: slices.Clone(sizes)}
	for v, size := range w.sizes {
		if size < 1 || size > api.MaxSize {
			return nil, api.ErrArg
		}
		w.domains[v] = values.Below(size)
	}
	return w, api.OK
}

// Post a table (P4).
func (w *Work) Post(t api.Table) api.Errno {
	switch {
	case w.busy:
		return api.ErrBusy
	case !tables.Valid(t, w.sizes):
		return api.ErrArg
	case len(w.tables) == api.MaxTables:
		return api.ErrFull
	case w.trail.Level() != 0:
		return api.ErrLevel
	case w.dead():
		return api.ErrDead
	}
	var waiting marks
	waiting[len(w.tables)] = true
	w.tables = append(w.tables, tables.Make(t, w.domains))
	w.settle(w.domains, waiting)
	return api.OK
}

// Fix a variable's value (P5).
func (w *Work) Fix(v, value int) api.Errno {
	if e := w.fault(v, value); e != api.OK {
		return e
	}
	w.restrict(v, w.domains[v]&values.One(value))
	return api.OK
}

// Remove a value (P5).
func (w *Work) Remove(v, value int) api.Errno {
	if e := w.fault(v, value); e != api.OK {
		return e
	}
	w.restrict(v, w.domains[v]&^values.One(value))
	return api.OK
}

// Push a level (P6).
func (w *Work) Push() api.Errno {
	switch {
	case w.busy:
		return api.ErrBusy
	case w.trail.Level() == api.MaxLevel:
		return api.ErrFull
	}
	w.trail.Push()
	return api.OK
}

// Pop a level (P6).
func (w *Work) Pop() api.Errno {
	switch {
	case w.busy:
		return api.ErrBusy
	case w.trail.Level() == 0:
		return api.ErrLevel
	}
	w.trail.Pop()
	return api.OK
}

// Domain of a variable (P7).
func (w *Work) Domain(v int) ([]int, api.Errno) {
	switch {
	case w.busy:
		return nil, api.ErrBusy
	case !w.has(v):
		return nil, api.ErrArg
	}
	return w.domains[v].List(), api.OK
}

// Look at it (P7).
func (w *Work) Look() api.Look {
	if w.busy {
		return api.Look{}
	}
	look := api.Look{Vars: len(w.sizes), Tables: len(w.tables), Level: w.trail.Level(), Dead: w.dead()}
	for _, domain := range w.domains {
		look.Left += domain.Len()
		if domain.Len() == 1 {
			look.Fixed++
		}
	}
	return look
}

// Solutions goes through all that fits (P8).
func (w *Work) Solutions() func(yield func([]int) bool) { return w.goThrough }

// Count tells how many there are (P9).
func (w *Work) Count(most int) (int, api.Errno) {
	switch {
	case w.busy:
		return 0, api.ErrBusy
	case most < 0:
		return 0, api.ErrArg
	}
	count := 0
	for range w.Solutions() {
		if count == most {
			break
		}
		count++
	}
	return count, api.OK
}

func (w *Work) has(v int) bool { return v >= 0 && v < len(w.sizes) }

// fault is the error that Fix and Remove share.
func (w *Work) fault(v, value int) api.Errno {
	switch {
	case w.busy:
		return api.ErrBusy
	case !w.has(v) || value < 0 || value >= w.sizes[v]:
		return api.ErrArg
	case w.dead():
		return api.ErrDead
	}
	return api.OK
}
